import PyProof.Rows.All
import Wide.All
import OpenK.AllK
import Wide.FinOn
import HandS.ForMost
import HandS.ForExc
import HandS.TupAny
import HandS.Deep
import HandS.IsInst
import HandS.Zip
import HandS.Rev
import HandS.Property
import HandS.DictComp
import HandS.Flow
import HandS.Wide
import HandS.RaiseMore
import HandS.Style
import HandS.TupMul
import HandS.Walk
import HandS.Base
import HandS.Call
import HandS.List
import HandS.Strs
import PyProof.ZipIter
import PyProof.CallType
import PyProof.Walk
import PyProof.WalkLemmas
import PyProof.RulesTry
import PyProof.TupleOfSeq
import PyProof.TupleOfGen
import PyProof.Draws
import PyProof.EnumMake
import KE.GoesZip
import KE.GoesMore
import HandS.Exc
import HandS.ExcInit
import KE.KIsAll
import KE.KTryMore
import HandS.ExcIs
import HandS.ExcField
import HandS.MakeKwOnly
import HandS.Lambda
import PyProof.EqKinds
import PyProof.FactsAll.dict
import HandS.DictEq
import KE.DataIsa
import KE.DataEq
import PyProof.NeKinds
import PyProof.Rows.IntBool
import PyProof.CallStr
import PyProof.StrOps2
import PyProof.FactsAll.bool
import HandS.Defaults
import KE.KRevSl
import HandS.ExcValue
import HandS.WordsExc
import HandS.Set
import HandS.More
import PyProof.WalksMore
import PyProof.TupleIter
import PyProof.FactsAll.subtypes_4
import HandS.Text
import HandS.EndTab
import PySem.Challenge.RW_seldomseen_k09_watches_of_any_value
set_option Elab.async false
set_option linter.all false
set_option maxRecDepth 100000
set_option maxHeartbeats 0
/-! SdA: defs that are called where no repr is under way; the law's end for such -/
namespace Sd
open PySem PySem.Spec PyProof.Rows L2

/-- a def's promise where nothing is being shown around the call -/
structure FnG (P : Program) (w : World) (K : PySem.W.Frag) (mg : Str → Option Value) (base : Heap) (cx : CXT)
    (k : Nat) (f : Addr) (fd : FuncData) (ps : List Str) (sp : Sp) : Prop where
  many : ∀ vs H Q E, sp vs H Q E → vs.length = ps.length
  go : ∀ (A : Around) (out : List Env) (s : Shared) (H : Hp) (args : Args) (us : List Value) (vs : List V) (Q : VK) (E : XK),
    A.guards = some [] → Room k A → Env0 P w K mg base A out s H → BindsTo s fd args (ps.zip us) →
    Vals vs us → sp vs H Q E → codeAny (model P w) A (.call (.ref f) args) (CR cx out P w H s Q E) s

section
variable {P : Program} {w : World} {K : PySem.W.Frag} {mg : Str → Option Value} {base : Heap} {cx : CXT}
variable {k j : Nat} {f : Addr} {fd : FuncData} {ps : List Str} {sp : Sp}
theorem FnG.of (o : FnOk P w K mg base cx k f fd ps sp) : FnG P w K mg base cx k f fd ps sp :=
  ⟨o.len, fun A out s H args us vs Q E _ hr => o.run A out s H args us vs Q E hr⟩
theorem FnG.up (o : FnG P w K mg base cx j f fd ps sp) (h : j ≤ k) : FnG P w K mg base cx k f fd ps sp :=
  ⟨o.many, fun A out s H args us vs Q E g r => o.go A out s H args us vs Q E g (r.mono h)⟩
end

section
variable {X : Cx} {cx : CXT} {k : Nat} {f : Addr} {fd : FuncData} {ps : List Str} {sp : Sp} {dvs : List V} {ds : List Value}
variable {E : XK} {x : Str} {p pos : Pos} {e : Expr} {es : List Expr} {t : TA}
theorem go_fn {pins : List (Addr × Obj)} {σ : L2.St} {H : Hp} {s : Shared} {Q : VK} {us : List Value} {vs : List V}
    (o : FnG X.prog X.w X.K X.mg X.base cx k f fd ps sp) (hG : X.A.guards = some []) (hr : Room k X.A)
    (hb : Binds X.K fd ps ds) (hd : Vals dvs ds) (hx : Passes cx X E) (I : Inv X pins σ H s) (r : Vals vs us)
    (h : sp (vs ++ dvs) H Q E) : wpAny (model X.prog X.w) X.A (call (.ref f) us) (EP X pins σ Q) X.xe s := by
  have r2 := r.append hd
  have hl : (us ++ ds).length = ps.length := r2.length.symm.trans (o.many _ _ _ _ h)
  refine wpAny_call (codeAny_mono (o.go X.A X.stack s H ⟨us, []⟩ (us ++ ds) (vs ++ dvs) Q E hG hr I.env0
    (hb s us I.kIn hl) r2 h) ?_)
  intro z s' hq
  match z, hq with
  | .error e, hq => exact hx pins σ H s e s' I hq
  | .ok (.ret u), hq => exact I.after hq
  | .ok .next, hq => exact hq.elim
  | .ok .brk, hq => exact hq.elim
  | .ok .cont, hq => exact hq.elim
/-- f(e, ..) -/
theorem pe_callG (o : FnG X.prog X.w X.K X.mg X.base cx k f fd ps sp) (hG : X.A.guards = some []) (hr : Room k X.A)
    (hg : Gl X x) (hm : X.mg x = some (.ref f)) (hk : PySem.W.keepIn X.K (.ref f) = true) (hb : Binds X.K fd ps ds)
    (hd : Vals dvs ds) (hx : Passes cx X E) (ha : PA X (e :: es) t) (hdb : (x == ("__debug__" : Str)) = false := by decide)
    (he : starEach (e :: es) X.env = (false, eval e X.env) :: starEach es X.env := by rfl)
    (hpl : (backTo pos (starEach es X.env)).any (·.1) = false := by rfl) :
    PE X (.Call (.Name x p) (e :: es) [] pos) (tCall sp dvs E t) := by
  constructor
  intro pins s σ H Q I h
  refine wpAny_Call_Name_kw (ld_glob I hg hm ?_ hdb)
  refine PySem.W.callWith_K (h₀ := X.base) I.ok.mod.kin hk (thn (ha.run pos pins s σ H _ I h) ?_) he hpl
  rintro us s1 ⟨vs, H1, I1, r, q⟩
  exact ⟨I1.kIn, go_fn o hG hr hb hd hx I1 r q⟩
/-- f() -/
theorem pe_callG0 (o : FnG X.prog X.w X.K X.mg X.base cx k f fd ps sp) (hG : X.A.guards = some []) (hr : Room k X.A)
    (hg : Gl X x) (hm : X.mg x = some (.ref f)) (hk : PySem.W.keepIn X.K (.ref f) = true) (hb : Binds X.K fd ps ds)
    (hd : Vals dvs ds) (hx : Passes cx X E) (hdb : (x == ("__debug__" : Str)) = false := by decide) :
    PE X (.Call (.Name x p) [] [] pos) (tCall sp dvs E tNil) := by
  constructor
  intro pins s σ H Q I h
  refine wpAny_Call_Name_kw (ld_glob I hg hm ?_ hdb)
  exact PySem.W.callWith_K0 I.kIn hk (go_fn (us := []) o hG hr hb hd hx I .nil h)
end

/-- a def by its body, where nothing is being shown -/
theorem fnG_of {cx : CXT} {P : Program} {w : World} {K : PySem.W.Frag} {mg : Str → Option Value} {base : Heap} {k : Nat} {f : Addr}
    {name qual : Str} {params : Arguments} {body : List Stmt} {sc : Scope} {dV kV doc pm cdv ct oc : Value} {an od : Option Addr}
    {osl : Array (Option Value)} {N ps : List Str} {sp : Sp}
    (lk : K.lookup f = some ⟨oc, od, .func (PySem.W.fnOf name qual params body sc dV kV doc pm an cdv ct), osl⟩)
    (hcd : PySem.W.codeIn K cdv qual = true) (S : FnScope N ps sc) (many : ∀ vs H Q E, sp vs H Q E → vs.length = ps.length)
    (hb : ∀ (A : Around) (out : List Env) (s : Shared) (H : Hp) (vs : List V) (Q : VK) (E : XK), A.guards = some [] →
      Room k (A.deeper (envOfC qual sc s.heap.objs.size f cdv)) → sp vs H Q E →
      ∃ t, PSs (cxOf cx P w K mg base N qual sc f cdv A out s H E) body t ∧ t { nx := fun _ H' => Q .non H', rt := Q } (start N vs) H) :
    FnG P w K mg base cx (k + 1) f (PySem.W.fnOf name qual params body sc dV kV doc pm an cdv ct) ps sp := by
  refine ⟨many, ?_⟩
  intro A out s H args us vs Q E hG hr e0 hbi r hsp
  have hl := many _ _ _ _ hsp
  have KX : K.In s.heap := e0.mod.kin.keeps fun b o e => (e0.bs b o e).1
  have lim : s.heap.NoLimit := e0.mod.nolimit.keeps fun b o e => (e0.bs b o e).1
  have hk : ∀ y ∈ ps.zip us, sc.names.lookup y.1 = some .local ∨
      (sc.names.lookup y.1 = some .cell ∧ ((cellsFrom (s.heap.objs.size + 1) sc.names []).lookup y.1).isSome = true) := by
    rintro ⟨n, v⟩ hy
    rcases S.par n (List.of_mem_zip hy).1 with q | q
    · exact .inl q
    · exact .inr ⟨q, PySem.W.cellsFrom_some _ _ _ (.inl q)⟩
  refine codeAny_call_function hr.depth (KX _ _ lk) rfl S.co S.gen rfl (PySem.W.codeRec_of KX hcd) (hbi _ _ _ _ ?_)
  refine wpAny_newFunctionEnv_cells S.kind hk fun env he s1 x => ?_
  subst he
  refine ⟨lim.keeps x.toInCall.keep, codeAny_func ?_⟩
  obtain ⟨t, ht, hq⟩ := hb A out s H vs Q E hG (hr.deeper _) hsp
  have I : Inv (cxOf cx P w K mg base N qual sc f cdv A out s H E) [] (start N vs) H s1 := inv_start S hr.hd e0 hl r x
  refine wpAny_mono (ht.run [] s1 (start N vs) H _ I hq) ?_ fun e s' hs => hs
  have fin : ∀ {σ' : L2.St} {H' : Hp} {v : V} {u : Value} {s' : Shared},
      Inv (cxOf cx P w K mg base N qual sc f cdv A out s H E) [] σ' H' s' → RelV v u → Q v H' → CE out P w H s Q u s' :=
    fun {_ H' v _ _} J rv q => ⟨v, H', J.os, J.bare, J.base, J.hok, rv, q⟩
  intro fl s' hs
  match fl, hs with
  | .ret u, ⟨v, σ', H', J, rv, q⟩ => exact fin J rv q
  | .next, ⟨σ', H', J, q⟩ => exact fin (v := V.non) (u := Value.none) J rfl q
  | .brk, ⟨_, _, _, q⟩ => exact q.elim
  | .cont, ⟨_, _, _, q⟩ => exact q.elim
theorem Fun.okG {P : Program} {w : World} {K : PySem.W.Frag} {mg : Str → Option Value} {base : Heap} {x qual : Str} {st : Stmt} {f : Addr}
    {fd : FuncData} {N ps : List Str} {k : Nat} {sp : Sp} (F : Fun K x qual st f fd) (S : FnScope N ps (defScope st))
    (many : ∀ vs H Q E, sp vs H Q E → vs.length = ps.length)
    (hb : ∀ (cdv : Value) (A : Around) (out : List Env) (s : Shared) (H : Hp) (vs : List V) (Q : VK) (E : XK), A.guards = some [] →
      Room k (A.deeper (envOfC qual (defScope st) s.heap.objs.size f cdv)) → sp vs H Q E →
      ∃ t, PSs (cxOf (L2.CX P w) P w K mg base N qual (defScope st) f cdv A out s H E) (defBody st) t ∧
        t { nx := fun _ H' => Q .non H', rt := Q } (start N vs) H) : FnG P w K mg base (L2.CX P w) (k + 1) f fd ps sp := by
  obtain ⟨oc, od, kV, doc, pm, an, cdv, ct, osl, rfl, lk, hcd⟩ := F.ex
  exact fnG_of lk hcd S many fun A out s H vs Q E g hr h => hb cdv A out s H vs Q E g hr h

end Sd

/-! SdB: how heaps go on, repr of data, rules for operands of several kinds -/
namespace Sd
open PySem PySem.Spec PyProof.Rows L2

/-! ### how the tracked heap goes on -/
/-- what nothing changes -/
def Fix : HO → Bool
  | .tup _ | .ins _ _ _ | .own _ | .frz _ _ | .rng _ _ | .met _ _ => true
  | _ => false
/-- from H to H' nothing but lists and dicts among M has changed -/
structure Go (M : List Addr) (H H' : Hp) : Prop where
  old : ∀ b o, b ∉ M → H b = some o → H' b = some o
  fix : ∀ b o, Fix o = true → H b = some o → H' b = some o
theorem Go.refl (M : List Addr) (H : Hp) : Go M H H := ⟨fun _ _ _ h => h, fun _ _ _ h => h⟩
theorem Go.trans {M : List Addr} {H H1 H2 : Hp} (a : Go M H H1) (b : Go M H1 H2) : Go M H H2 :=
  ⟨fun c o n h => b.old c o n (a.old c o n h), fun c o n h => b.fix c o n (a.fix c o n h)⟩
theorem Go.mono {M N : List Addr} {H H' : Hp} (a : Go M H H') (h : ∀ b ∈ M, b ∈ N) : Go N H H' :=
  ⟨fun c o n => a.old c o fun z => n (h c z), a.fix⟩
theorem Go.wide {M : List Addr} {H H' : Hp} (a : Go [] H H') : Go M H H' := a.mono fun _ h => nomatch h
theorem Go.new {M : List Addr} {H : Hp} {p : Addr} {o : HO} (h : H p = none) : Go M H (upd H p o) :=
  ⟨fun b u _ e => by rw [upd_ne (ne_of_none e h)]; exact e, fun b u _ e => by rw [upd_ne (ne_of_none e h)]; exact e⟩
theorem Go.put {M : List Addr} {H : Hp} {p : Addr} {o u : HO} (h : H p = some u) (hf : Fix u = false) (hp : p ∈ M) : Go M H (upd H p o) :=
  ⟨fun b v n e => by rw [upd_ne fun z => n (by rw [z]; exact hp)]; exact e, fun b v f e => by
    rw [upd_ne fun z => ?_]
    · exact e
    · subst z; rw [h] at e; cases e; rw [hf] at f; cases f⟩
theorem Go.free {M : List Addr} {H H' : Hp} (g : Go M H H') {p : Addr} (hm : p ∉ M) (h : H' p = none) : H p = none := by
  cases e : H p with
  | none => rfl
  | some o => rw [g.old p o hm e] at h; cases h
theorem Go.same {H H' : Hp} (g : Go [] H H') : Same H H' := fun b o e => g.old b o (fun z => nomatch z) e
theorem Go.ofSame {H H' : Hp} (g : Same H H') : Go [] H H' := ⟨fun b o _ e => g b o e, fun b o _ e => g b o e⟩
/-- a change of what was not there -/
theorem Go.mut {M : List Addr} {H H' : Hp} {p : Addr} {o : HO} (g : Go M H H') (h : H p = none) : Go M H (upd H' p o) :=
  ⟨fun b u n e => by rw [upd_ne (ne_of_none e h)]; exact g.old b u n e, fun b u n e => by rw [upd_ne (ne_of_none e h)]; exact g.fix b u n e⟩
theorem Go.sqT {K : PySem.W.Frag} {M : List Addr} {H H' : Hp} {a : Addr} {xs : List V} (g : Go M H H') (h : SqT K H a xs) : SqT K H' a xs := by
  rcases h with (h | ⟨o, h⟩) | h
  · exact .inl (.inl (g.fix _ _ rfl h))
  · exact .inl (.inr ⟨o, g.fix _ _ rfl h⟩)
  · exact .inr h
theorem Go.sqL {K : PySem.W.Frag} {H H' : Hp} {a : Addr} {xs : List V} (g : Go [] H H') (h : SqL K H a xs) : SqL K H' a xs := g.same.seq h

/-! ### data of tuples alone -/
mutual
def imm : PyData → Bool
  | .none | .bool _ | .int _ | .str _ => true
  | .tuple ds => immAll ds
  | .list _ | .dict _ => false
def immAll : List PyData → Bool
  | [] => true
  | d :: ds => imm d && immAll ds
end
mutual
theorem Dp.go' {K : PySem.W.Frag} {M : List Addr} {H H' : Hp} (g : Go M H H') : ∀ (d : PyData) (v : V), Dp K H v d → imm d = true → Dp K H' v d
  | .none, _, h, _ => by cases h; exact .non
  | .bool b, _, h, _ => by cases h; exact .bl b
  | .int i, _, h, _ => by cases h; exact .int i
  | .str x, _, h, _ => by cases h; exact .str x
  | .tuple ds, _, h, i => by
    cases h with
    | tup h a => exact .tup (g.sqT h) (DpAll.go' g ds _ a (by simpa only [imm] using i))
  | .list _, _, _, i => by simp [imm] at i
  | .dict _, _, h, _ => by cases h
theorem DpAll.go' {K : PySem.W.Frag} {M : List Addr} {H H' : Hp} (g : Go M H H') : ∀ (ds : List PyData) (vs : List V), DpAll K H vs ds → immAll ds = true → DpAll K H' vs ds
  | [], _, h, _ => by cases h; exact .nil
  | d :: ds, _, h, i => by
    cases h with
    | cons h t =>
      simp only [immAll, Bool.and_eq_true] at i
      exact .cons (Dp.go' g d _ h i.1) (DpAll.go' g ds _ t i.2)
end
mutual
theorem Dp.go0' {K : PySem.W.Frag} {H H' : Hp} (g : Go [] H H') : ∀ (d : PyData) (v : V), Dp K H v d → Dp K H' v d
  | .none, _, h => by cases h; exact .non
  | .bool b, _, h => by cases h; exact .bl b
  | .int i, _, h => by cases h; exact .int i
  | .str x, _, h => by cases h; exact .str x
  | .tuple ds, _, h => by
    cases h with
    | tup h a => exact .tup (g.sqT h) (DpAll.go0' g ds _ a)
  | .list ds, _, h => by
    cases h with
    | lst h a => exact .lst (g.sqL h) (DpAll.go0' g ds _ a)
  | .dict _, _, h => by cases h
theorem DpAll.go0' {K : PySem.W.Frag} {H H' : Hp} (g : Go [] H H') : ∀ (ds : List PyData) (vs : List V), DpAll K H vs ds → DpAll K H' vs ds
  | [], _, h => by cases h; exact .nil
  | d :: ds, _, h => by
    cases h with
    | cons h t => exact .cons (Dp.go0' g d _ h) (DpAll.go0' g ds _ t)
end
theorem Dp.go {K : PySem.W.Frag} {M : List Addr} {H H' : Hp} (g : Go M H H') {v : V} {d : PyData} (h : Dp K H v d) (i : imm d = true) : Dp K H' v d := Dp.go' g d v h i
theorem DpAll.go {K : PySem.W.Frag} {M : List Addr} {H H' : Hp} (g : Go M H H') {v : List V} {d : List PyData} (h : DpAll K H v d) (i : immAll d = true) : DpAll K H' v d := DpAll.go' g d v h i
theorem Dp.go0 {K : PySem.W.Frag} {H H' : Hp} (g : Go [] H H') {v : V} {d : PyData} (h : Dp K H v d) : Dp K H' v d := Dp.go0' g d v h
theorem DpAll.go0 {K : PySem.W.Frag} {H H' : Hp} (g : Go [] H H') {v : List V} {d : List PyData} (h : DpAll K H v d) : DpAll K H' v d := DpAll.go0' g d v h
theorem DpAll.len {K : PySem.W.Frag} {H : Hp} : ∀ {vs : List V} {ds : List PyData}, DpAll K H vs ds → vs.length = ds.length
  | [], _, h => by cases h; rfl
  | v :: vs, _, h => by
    cases h with
    | cons h t => exact congrArg (· + 1) (DpAll.len (vs := vs) t)
theorem DpAll.at {K : PySem.W.Frag} {H : Hp} : ∀ {vs : List V} {ds : List PyData} {i : Nat} {v : V}, DpAll K H vs ds → vs[i]? = some v → ∃ d, ds[i]? = some d ∧ Dp K H v d
  | [], _, _, _, _, e => by simp at e
  | w :: vs, _, i, v, h, e => by
    cases h with
    | cons h t =>
      cases i with
      | zero =>
        simp at e
        subst e
        exact ⟨_, rfl, h⟩
      | succ i =>
        obtain ⟨d, h1, h2⟩ := DpAll.at (vs := vs) (i := i) t (by simpa using e)
        exact ⟨d, by simpa using h1, h2⟩
theorem DpAll.atD {K : PySem.W.Frag} {H : Hp} : ∀ {vs : List V} {ds : List PyData} {i : Nat} {d : PyData}, DpAll K H vs ds → ds[i]? = some d → ∃ v, vs[i]? = some v ∧ Dp K H v d
  | [], _, _, _, h, e => by
    cases h
    simp at e
  | w :: vs, _, i, d, h, e => by
    cases h with
    | cons h t =>
      cases i with
      | zero =>
        simp at e
        subst e
        exact ⟨_, rfl, h⟩
      | succ i =>
        obtain ⟨d, h1, h2⟩ := DpAll.atD (vs := vs) (i := i) t (by simpa using e)
        exact ⟨d, by simpa using h1, h2⟩
theorem DpAll.app {K : PySem.W.Frag} {H : Hp} : ∀ {vs ws : List V} {ds es : List PyData}, DpAll K H vs ds → DpAll K H ws es → DpAll K H (vs ++ ws) (ds ++ es)
  | [], _, _, _, h, s => by cases h; exact s
  | v :: vs, _, _, _, h, s => by
    cases h with
    | cons h t => exact .cons h (DpAll.app (vs := vs) t s)
theorem DpAll.strs {K : PySem.W.Frag} {H : Hp} : ∀ (ss : List Str), DpAll K H (ss.map V.str) (ss.map PyData.str)
  | [] => .nil
  | s :: ss => .cons (.str s) (DpAll.strs ss)
theorem DpAll.ints {K : PySem.W.Frag} {H : Hp} : ∀ (ss : List Int), DpAll K H (ss.map V.int) (ss.map PyData.int)
  | [] => .nil
  | s :: ss => .cons (.int s) (DpAll.ints ss)
theorem DpAll.strs_inv {K : PySem.W.Frag} {H : Hp} : ∀ {ss : List Str} {vs : List V}, DpAll K H vs (ss.map PyData.str) → vs = ss.map V.str
  | [], _, h => by cases h; rfl
  | s :: ss, _, h => by
    cases h with
    | cons h t =>
      cases h
      rw [DpAll.strs_inv t]
      rfl
theorem DpAll.ints_inv {K : PySem.W.Frag} {H : Hp} : ∀ {ss : List Int} {vs : List V}, DpAll K H vs (ss.map PyData.int) → vs = ss.map V.int
  | [], _, h => by cases h; rfl
  | s :: ss, _, h => by
    cases h with
    | cons h t =>
      cases h
      rw [DpAll.ints_inv t]
      rfl
theorem dp_tup {K : PySem.W.Frag} {H : Hp} {p : Addr} {xs : List V} {ds : List PyData} (h : H p = some (.tup xs)) (a : DpAll K H xs ds) : Dp K H (.ref p) (.tuple ds) := .tup (SqT.of h) a
theorem imm_strs : ∀ ss : List Str, immAll (ss.map PyData.str) = true
  | [] => rfl
  | s :: ss => by simp only [List.map_cons, immAll, imm, imm_strs ss, Bool.and_self]
theorem imm_ints : ∀ ss : List Int, immAll (ss.map PyData.int) = true
  | [] => rfl
  | s :: ss => by simp only [List.map_cons, immAll, imm, imm_ints ss, Bool.and_self]

/-! ### new objects -/
theorem newO {M : List Addr} {H : Hp} {Q : VK} {o : HO} (k : ∀ p H', H p = none → Go M H H' → H' p = some o → Q (.ref p) H') : ∀ p, H p = none → Q (.ref p) (upd H p o) :=
  fun p hp => k p _ hp (Go.new hp) upd_same

/-! ### one expression, several readings -/
section
variable {X : Cx} {e : Expr} {es : List Expr}
theorem PE.or {t u : TE} (h1 : PE X e t) (h2 : PE X e u) : PE X e (fun σ H Q => t σ H Q ∨ u σ H Q) :=
  ⟨fun pins s σ H Q I h => h.elim (h1.run pins s σ H Q I) (h2.run pins s σ H Q I)⟩
theorem OpR.or {f : Value → Value → Sem Value} {r q : R2} (h1 : OpR X f r) (h2 : OpR X f q) : OpR X f (fun x y H Q => r x y H Q ∨ q x y H Q) :=
  fun pins s σ H x y v u Q I rx ry h => h.elim (h1 pins s σ H x y v u Q I rx ry) (h2 pins s σ H x y v u Q I rx ry)
theorem PI.or {tg it : Expr} {t u : TI} (h1 : PI X tg it t) (h2 : PI X tg it u) : PI X tg it (fun σ H R => t σ H R ∨ u σ H R) :=
  ⟨fun pins s σ H R I h => h.elim (h1.run pins s σ H R I) (h2.run pins s σ H R I)⟩
theorem CallR.or {f : Value} {r q : List V → Hp → VK → Prop} (h1 : CallR X f r) (h2 : CallR X f q) : CallR X f (fun xs H Q => r xs H Q ∨ q xs H Q) :=
  fun pins s σ H xs us Q I rx h => h.elim (h1 pins s σ H xs us Q I rx) (h2 pins s σ H xs us Q I rx)
end

/-! ### repr of data -/
def rRepr (K : PySem.W.Frag) (A : Around) : List V → Hp → VK → Prop := fun xs H Q => ∃ v d, xs = [v] ∧ Dp K H v d ∧ d.showable = true ∧ d.shown.length ≤ sizeLine ∧
  A.units + (d.depth + 1) < cLine ∧ Q (.str d.shown) H
mutual
theorem dp_nodict {K : PySem.W.Frag} {H : Hp} : ∀ (d : PyData) (v : V), Dp K H v d → d.hasDict = false
  | .none, _, h => by simp only [PyData.hasDict]
  | .bool _, _, h => by simp only [PyData.hasDict]
  | .int _, _, h => by simp only [PyData.hasDict]
  | .str _, _, h => by simp only [PyData.hasDict]
  | .tuple ds, _, h => by
    cases h with
    | tup h a => simp only [PyData.hasDict]; exact dpAll_nodict ds _ a
  | .list ds, _, h => by
    cases h with
    | lst h a => simp only [PyData.hasDict]; exact dpAll_nodict ds _ a
  | .dict _, _, h => by cases h
theorem dpAll_nodict {K : PySem.W.Frag} {H : Hp} : ∀ (ds : List PyData) (vs : List V), DpAll K H vs ds → PyData.hasDictAll ds = false
  | [], _, _ => by simp only [PyData.hasDictAll]
  | d :: ds, _, h => by
    cases h with
    | cons h t => simp only [PyData.hasDictAll, dp_nodict d _ h, dpAll_nodict ds _ t, Bool.or_self]
end
theorem call_reprD {X : Cx} (hG : X.A.guards = some []) : CallR X (.builtin "repr") (rRepr X.K X.A) := by
  intro pins s σ H xs us Q I r h
  obtain ⟨v, d, rfl, hd, hs, hz, hu, q⟩ := h
  obtain ⟨u, rfl, rx⟩ := vals1 r
  obtain ⟨as, rd⟩ := Dp.reads I d v u hd rx
  have nd := dp_nodict d v hd
  cases hd with
  | non =>
    cases rx
    refine PySem.P.repr_of_none ⟨.str _, H, I.tok _, ⟨_, rfl⟩, ?_⟩
    exact q
  | bl b =>
    cases rx
    refine PySem.P.repr_of_bool ⟨.str _, H, I.tok _, ⟨_, rfl⟩, ?_⟩
    exact q
  | int i =>
    obtain ⟨t, rfl⟩ := rx
    refine PySem.P.repr_of_int (by simpa [PyData.showable] using hs) ⟨.str _, H, I.tok _, ⟨_, rfl⟩, ?_⟩
    exact q
  | str x =>
    obtain ⟨t, rfl⟩ := rx
    refine PySem.P.repr_of_str ⟨.str _, H, I.tok _, ⟨_, rfl⟩, ?_⟩ hz
    exact q
  | lst h a =>
    cases rx
    exact repr_of_reads' rd hs (fun e => by rw [nd] at e; cases e) hG hu (fun _ _ e => e) (fun h' u tk kp => ⟨.str _, H, I.kept (t' := tk) kp, ⟨_, rfl⟩, q⟩) hz
  | tup h a =>
    cases rx
    exact repr_of_reads' rd hs (fun e => by rw [nd] at e; cases e) hG hu (fun _ _ e => e) (fun h' u tk kp => ⟨.str _, H, I.kept (t' := tk) kp, ⟨_, rfl⟩, q⟩) hz
end Sd

/-! SdC: defs by their names; rules for operands of several kinds -/
namespace Sd
open PySem PySem.Spec PyProof.Rows L2

/-- where a law runs -/
structure Wd where
  P : Program
  w : World
  K : PySem.W.Frag
  mg : Str → Option Value
  base : Heap

/-- a def as the top left it -/
def At (c : Wd) (x qual : Str) (st : Stmt) (ps : List Str) : Prop :=
  ∃ (f : Addr) (fd : FuncData), c.mg x = some (.ref f) ∧ Fun c.K x qual st f fd ∧ Binds c.K fd ps []
/-- a def that keeps its promise; .. where nothing is being shown -/
def Ok (c : Wd) (x : Str) (k : Nat) (ps : List Str) (sp : Sp) : Prop :=
  ∃ (f : Addr) (fd : FuncData), c.mg x = some (.ref f) ∧ PySem.W.keepIn c.K (.ref f) = true ∧ Binds c.K fd ps [] ∧ FnOk c.P c.w c.K c.mg c.base (L2.CX c.P c.w) k f fd ps sp
def OkG (c : Wd) (x : Str) (k : Nat) (ps : List Str) (sp : Sp) : Prop :=
  ∃ (f : Addr) (fd : FuncData), c.mg x = some (.ref f) ∧ PySem.W.keepIn c.K (.ref f) = true ∧ Binds c.K fd ps [] ∧ FnG c.P c.w c.K c.mg c.base (L2.CX c.P c.w) k f fd ps sp
theorem Ok.g {c : Wd} {x : Str} {k : Nat} {ps : List Str} {sp : Sp} (o : Ok c x k ps sp) : OkG c x k ps sp := by
  obtain ⟨f, fd, h1, h2, h3, h4⟩ := o
  exact ⟨f, fd, h1, h2, h3, .of h4⟩
abbrev cxN (c : Wd) (N : List Str) (qual : Str) (st : Stmt) (f : Addr) (cdv : Value) (A : Around) (out : List Env) (s : Shared) (H : Hp) (E : XK) : Cx :=
  cxOf (L2.CX c.P c.w) c.P c.w c.K c.mg c.base N qual (defScope st) f cdv A out s H E
/-- a def that lets nothing out, by its body -/
theorem Ok.of {c : Wd} {x qual : Str} {st : Stmt} {N ps : List Str} {k : Nat} {sp : Sp} (F : At c x qual st ps) (S : FnScope N ps (defScope st))
    (len : ∀ vs H Q E, sp vs H Q E → vs.length = ps.length)
    (h : ∀ (f : Addr) (cdv : Value) (A : Around) (out : List Env) (s : Shared) (H : Hp) (vs : List V) (Q : VK) (E : XK),
      Room k (A.deeper (envOfC qual (defScope st) s.heap.objs.size f cdv)) → sp vs H Q E →
      ∃ t, PSs (cxN c N qual st f cdv A out s H E).nox (defBody st) t ∧ t { nx := fun _ H' => Q .non H', rt := Q } (start N vs) H) : Ok c x (k + 1) ps sp := by
  obtain ⟨f, fd, h1, h2, h3⟩ := F
  refine ⟨f, fd, h1, h2.kp, h3, h2.okX S len fun cdv A out s H vs Q E hr q => ?_⟩
  obtain ⟨t, a, b⟩ := h f cdv A out s H vs Q E hr q
  exact ⟨t, a.nox, b⟩
/-- .. that may raise -/
theorem Ok.ofX {c : Wd} {x qual : Str} {st : Stmt} {N ps : List Str} {k : Nat} {sp : Sp} (F : At c x qual st ps) (S : FnScope N ps (defScope st))
    (len : ∀ vs H Q E, sp vs H Q E → vs.length = ps.length)
    (h : ∀ (f : Addr) (cdv : Value) (A : Around) (out : List Env) (s : Shared) (H : Hp) (vs : List V) (Q : VK) (E : XK),
      Room k (A.deeper (envOfC qual (defScope st) s.heap.objs.size f cdv)) → sp vs H Q E →
      ∃ t, PSs (cxN c N qual st f cdv A out s H E) (defBody st) t ∧ t { nx := fun _ H' => Q .non H', rt := Q } (start N vs) H) : Ok c x (k + 1) ps sp := by
  obtain ⟨f, fd, h1, h2, h3⟩ := F
  exact ⟨f, fd, h1, h2.kp, h3, h2.okX S len fun cdv A out s H vs Q E hr q => h f cdv A out s H vs Q E hr q⟩
theorem OkG.of {c : Wd} {x qual : Str} {st : Stmt} {N ps : List Str} {k : Nat} {sp : Sp} (F : At c x qual st ps) (S : FnScope N ps (defScope st))
    (len : ∀ vs H Q E, sp vs H Q E → vs.length = ps.length)
    (h : ∀ (f : Addr) (cdv : Value) (A : Around) (out : List Env) (s : Shared) (H : Hp) (vs : List V) (Q : VK) (E : XK), A.guards = some [] →
      Room k (A.deeper (envOfC qual (defScope st) s.heap.objs.size f cdv)) → sp vs H Q E →
      ∃ t, PSs (cxN c N qual st f cdv A out s H E).nox (defBody st) t ∧ t { nx := fun _ H' => Q .non H', rt := Q } (start N vs) H) : OkG c x (k + 1) ps sp := by
  obtain ⟨f, fd, h1, h2, h3⟩ := F
  refine ⟨f, fd, h1, h2.kp, h3, Fun.okG h2 S len fun cdv A out s H vs Q E hG hr q => ?_⟩
  obtain ⟨t, a, b⟩ := h f cdv A out s H vs Q E hG hr q
  exact ⟨t, a.nox, b⟩

section
variable {X : Cx} {c : Wd} {x : Str} {k : Nat} {ps : List Str} {sp : Sp} {p pos : Pos} {e : Expr} {es : List Expr} {t : TA}
/-- the context is of the law's -/
structure Of (X : Cx) (c : Wd) : Prop where
  P : X.prog = c.P
  w : X.w = c.w
  K : X.K = c.K
  mg : X.mg = c.mg
  base : X.base = c.base
theorem pe_f (D : Ok c x k ps sp) (hr : Room k X.A) (hg : Gl X x) (ha : PA X (e :: es) t) (hc : Of X c := by exact ⟨rfl, rfl, rfl, rfl, rfl⟩)
    (hdb : (x == ("__debug__" : Str)) = false := by decide) (he : starEach (e :: es) X.env = (false, eval e X.env) :: starEach es X.env := by rfl)
    (hpl : (backTo pos (starEach es X.env)).any (·.1) = false := by rfl) : PE X (.Call (.Name x p) (e :: es) [] pos) (tCall sp [] E0 t) := by
  obtain ⟨f, fd, h1, h2, h3, h4⟩ := D
  obtain ⟨c1, c2, c3, c4, c5⟩ := hc
  subst_vars
  obtain ⟨P, w, K, mg, base⟩ := c
  dsimp only at c1 c2 c3 c4 c5
  subst c1 c2 c3 c4 c5
  exact pe_call h4 hr hg h1 h2 h3 .nil passL ha hdb he hpl
theorem pe_fG (D : OkG c x k ps sp) (hG : X.A.guards = some []) (hr : Room k X.A) (hg : Gl X x) (ha : PA X (e :: es) t) (hc : Of X c := by exact ⟨rfl, rfl, rfl, rfl, rfl⟩)
    (hdb : (x == ("__debug__" : Str)) = false := by decide) (he : starEach (e :: es) X.env = (false, eval e X.env) :: starEach es X.env := by rfl)
    (hpl : (backTo pos (starEach es X.env)).any (·.1) = false := by rfl) : PE X (.Call (.Name x p) (e :: es) [] pos) (tCall sp [] E0 t) := by
  obtain ⟨f, fd, h1, h2, h3, h4⟩ := D
  obtain ⟨c1, c2, c3, c4, c5⟩ := hc
  obtain ⟨P, w, K, mg, base⟩ := c
  dsimp only at c1 c2 c3 c4 c5
  subst c1 c2 c3 c4 c5
  exact pe_callG h4 hG hr hg h1 h2 h3 .nil passL ha hdb he hpl
end

theorem _root_.L2.Room.u5 {k : Nat} {A : Around} (r : Room k A) : A.units + 65 < cLine := by have := r.un; omega
/-! ### operands of several kinds -/
section
variable {X : Cx}
def rAddU (K : PySem.W.Frag) : R2 := fun x y H Q => ((rI0 fun i j => .int (i + j)) x y H Q ∨ (∃ i j, x = .str i ∧ y = .str j ∧ i.length + j.length ≤ sizeLine ∧ Q (.str (i ++ j)) H)) ∨ (rCat x y H Q ∨ rCatA K x y H Q)
variable {K : PySem.W.Frag}
theorem op_addU (hK : X.K = K := by rfl) : OpR X (binaryOp .Add) (rAddU K) := by subst hK; exact OpR.or (OpR.or op_add op_add_str) (OpR.or op_cat op_catA)
def rEqU (K : PySem.W.Frag) : R2 := fun x y H Q => rEq x y H Q ∨ rEqD K x y H Q
theorem op_eqU (hu : X.A.units + 64 < cLine) (hK : X.K = K := by rfl) : OpR X (compareOp .Eq) (rEqU K) := by subst hK; exact OpR.or op_eq (op_eqD hu)
def rNeU (K : PySem.W.Frag) : R2 := fun x y H Q => rNe x y H Q ∨ rNeD K x y H Q
theorem op_neU (hu : X.A.units + 64 < cLine) (hK : X.K = K := by rfl) : OpR X (compareOp .NotEq) (rNeU K) := by subst hK; exact OpR.or op_ne (op_neD hu)
/-- one sign in a text -/
def rSgn (neg : Bool) : R2 := fun x y H Q => ∃ (c : Nat) (z : Str), x = .str ⟨#[c]⟩ ∧ y = .str z ∧ Q (.bl (if neg then !decide (c ∈ z.cps.toList) else decide (c ∈ z.cps.toList))) H
def rInU (K : PySem.W.Frag) : R2 := fun x y H Q => (rIn K false x y H Q ∨ rSgn false x y H Q) ∨ rInD K x y H Q
theorem op_inU (hu : X.A.units + 65 < cLine) (hK : X.K = K := by rfl) : OpR X (compareOp .In) (rInU K) := by subst hK; exact OpR.or (OpR.or op_in_seq op_in_sign) (op_inD hu)
def rNiU (K : PySem.W.Frag) : R2 := fun x y H Q => (rIn K true x y H Q ∨ rSgn true x y H Q) ∨ rNotInD K x y H Q
theorem op_niU (hu : X.A.units + 65 < cLine) (hK : X.K = K := by rfl) : OpR X (compareOp .NotIn) (rNiU K) := by subst hK; exact OpR.or (OpR.or op_notIn_seq op_notIn_sign) (op_notInD hu)
def rLtU : R2 := fun x y H Q => (rI0 fun i j => .bl (decide (i < j))) x y H Q ∨ ∃ i j, x = .str i ∧ y = .str j ∧ Q (.bl (decide (i.cps.toList < j.cps.toList))) H
theorem op_ltU : OpR X (compareOp .Lt) rLtU := OpR.or op_lt op_lt_str
def rGtU : R2 := fun x y H Q => (rI0 fun i j => .bl (decide (j < i))) x y H Q ∨ ∃ i j, x = .str i ∧ y = .str j ∧ Q (.bl (decide (j.cps.toList < i.cps.toList))) H
theorem op_gtU : OpR X (compareOp .Gt) rGtU := OpR.or op_gt op_gt_str
def rMulU : R2 := fun x y H Q => (rI CMulW fun i j => .int (i * j)) x y H Q ∨ rRep x y H Q
theorem op_mulU : OpR X (binaryOp .Mult) rMulU := OpR.or op_mulW op_rep
def tIx (K : PySem.W.Frag) (ta tb : TE) : TE := fun σ H Q => tOp (rIx K) ta tb σ H Q ∨ tDGet ta tb σ H Q
theorem pe_ixU {a b : Expr} {ta tb : TE} {pos : Pos} (hu : X.A.units + 1 < cLine) (ha : PE X a ta) (hb : PE X b tb) (hs : PlainIx b) (hs' : NoSl b) (hK : X.K = K := by rfl) : PE X (.Subscript a b pos) (tIx K ta tb) := by
  subst hK
  exact PE.or (pe_ix ix_seq ha hb hs) (pe_dget hu ha hb hs')
def rSlU (K : PySem.W.Frag) : V → Option Int → Option Int → Hp → VK → Prop := fun x lo hi H Q => (rSlL K x lo hi H Q ∨ rSlA K x lo hi H Q) ∨ rSlS x lo hi H Q
theorem sl_U (hK : X.K = K := by rfl) : SlR X (rSlU K) := by subst hK; exact SlR.or (SlR.or sl_list sl_tupA) sl_str
def rLenU (K : PySem.W.Frag) : List V → Hp → VK → Prop := fun xs H Q => (∃ x n, xs = [x] ∧ LenV K x H n ∧ Q (.int n) H)
theorem call_lenU (hK : X.K = K := by rfl) : CallR X (.builtin "len") (rLenU K) := by subst hK; exact call_len
def iSeq (K : PySem.W.Frag) (te : TE) : TI := fun σ H R => (iList K te σ H R ∨ iTup K te σ H R) ∨ iStr te σ H R
theorem pi_seq {tg e : Expr} {te : TE} (h : PE X e te) (hK : X.K = K := by rfl) : PI X tg e (iSeq K te) := by subst hK; exact PI.or (PI.or (pi_list h) (pi_tup h)) (pi_str h)
theorem call_isiU (hK : X.K = K := by rfl) : CallR X (.builtin "isinstance") (rIsi K) := by subst hK; exact call_isi
theorem call_allU (hc : X.calm = true) (hK : X.K = K := by rfl) : CallR X (.builtin "all") (rAll K) := by subst hK; exact cr_all hc
theorem call_anyU (hc : X.calm = true) (hK : X.K = K := by rfl) : CallR X (.builtin "any") (rAny K) := by subst hK; exact cr_any hc
theorem call_sumU (hc : X.calm = true) (hK : X.K = K := by rfl) : CallR X (.builtin "sum") (rSum K) := by subst hK; exact cr_sum hc
theorem call_sortU (hK : X.K = K := by rfl) : CallR X (.builtin "sorted") (rSortedS K) := by subst hK; exact cr_sortedS
def rLstU (K : PySem.W.Frag) : List V → Hp → VK → Prop := fun xs H Q => ∃ p ys, xs = [.ref p] ∧ (SqL K H p ys ∨ SqT K H p ys) ∧ ∀ l, H l = none → Q (.ref l) (upd H l (.lst ys))
theorem call_lstU (hK : X.K = K := by rfl) : CallR X (.type "list") (rLstU K) := by subst hK; exact call_list_of
def rTupU (K : PySem.W.Frag) : List V → Hp → VK → Prop := fun xs H Q => ∃ p ys, xs = [.ref p] ∧ ((SqL K H p ys ∧ ∀ l, H l = none → Q (.ref l) (upd H l (.tup ys))) ∨ (SqT K H p ys ∧ Q (.ref p) H))
theorem call_tupU (hK : X.K = K := by rfl) : CallR X (.type "tuple") (rTupU K) := by subst hK; exact call_tuple_of
def rIntU : List V → Hp → VK → Prop := fun xs H Q => (∃ i, xs = [.int i] ∧ Q (.int i) H) ∨ ∃ k, xs = [.bl k] ∧ Q (.int (if k then 1 else 0)) H
theorem call_intU : CallR X (.type "int") rIntU := call_int1
def rAbsU : List V → Hp → VK → Prop := fun xs H Q => ∃ i, xs = [.int i] ∧ Q (.int (if i < 0 then -i else i)) H
theorem call_absU : CallR X (.builtin "abs") rAbsU := call_abs
theorem call_reprU (hG : X.A.guards = some []) {A : Around} (hK : X.K = K := by rfl) (hA : X.A = A := by rfl) : CallR X (.builtin "repr") (rRepr K A) := by subst hK hA; exact call_reprD hG
theorem pi_zipU {p pos tpos : Pos} {e e2 : Expr} {ta : TA} {elts : List Expr} {kk : Nat} (hg : Gl X "zip") (hm : X.mg "zip" = none) (ha : PA X [e, e2] ta) (hK : X.K = K := by rfl)
    (hs : starEach [e, e2] X.env = (false, eval e X.env) :: starEach [e2] X.env := by rfl) (hpl : (backTo pos (starEach [e2] X.env)).any (·.1) = false := by rfl) :
    PI X (.Tuple elts kk tpos) (.Call (.Name "zip" p) [e, e2] [] pos) (RZ.iZipA K ta) := by
  subst hK
  exact RZ.pi_zipA hg hm ha hs hpl
theorem pg_tupU {es : List Expr} {k : Nat} {t : TGs} {n : Nat} {pos : Pos} (hc : X.calm = true) (h : PGs X es t) (hK : X.K = K := by rfl)
    (hn : (assignEach es X.env).length = n := by rfl) (hst : (assignEach es X.env).findIdx? (·.1) = none := by rfl) : PG X (.Tuple es k pos) (gTup K n t) := by
  subst hK
  exact pg_tup hc h hn hst
end
end Sd

/-! SdD: constants, classes, numbers of any size; steps of a reading -/
namespace Sd
open PySem PySem.Spec PyProof.Rows L2

section
variable {X : Cx}
theorem pe_gi {x : Str} {i : Int} {pos : Pos} (h : ∃ t, X.mg x = some (.int i t)) (hg : Gl X x := by rfl) (hd : (x == ("__debug__" : Str)) = false := by decide) : PE X (.Name x pos) (tC (.int i)) := by
  obtain ⟨t, h⟩ := h
  exact pe_glob hg h ⟨t, rfl⟩ hd
theorem pe_gs {x : Str} {i : Str} {pos : Pos} (h : ∃ t, X.mg x = some (.str i t)) (hg : Gl X x := by rfl) (hd : (x == ("__debug__" : Str)) = false := by decide) : PE X (.Name x pos) (tC (.str i)) := by
  obtain ⟨t, h⟩ := h
  exact pe_glob hg h ⟨t, rfl⟩ hd
theorem pe_ty (x : Str) (T : String) {pos : Pos} (hg : Gl X x) (hm : X.mg x = none) (hv : bootBuiltins x = some (.type T)) (hn : x ≠ "__name__" := by decide) (hd : (x == ("__debug__" : Str)) = false := by decide) : PE X (.Name x pos) (tC (.ty T)) := pe_bltn hg hm hv rfl hn hd
/-- a ** b, together not above 2 ^ 27 bits -/
def CPowW (i j : Int) : Prop := 0 ≤ j ∧ (Builtin.Int.intBits i : Int) * j ≤ 2 ^ 27
def rPowU : R2 := rI CPowW fun i j => .int (i ^ j.toNat)
def rModU : R2 := rI (fun _ j => 0 < j) fun i j => .int (i % j)
def rFdU : R2 := rI CDivN fun i j => .int (i.fdiv j)
def rSubU : R2 := rI0 fun i j => .int (i - j)
theorem op_modU : OpR X (binaryOp .Mod) rModU := op_mod
theorem op_fdU : OpR X (binaryOp .FloorDiv) rFdU := op_fdivN
theorem op_subU : OpR X (binaryOp .Sub) rSubU := op_sub
theorem op_powU : OpR X (binaryOp .Pow) rPowU := by
  intro pins s σ H x y v u Q I rx ry h
  obtain ⟨i, j, rfl, rfl, hc, q⟩ := h
  obtain ⟨t, rfl⟩ := rx
  obtain ⟨t', rfl⟩ := ry
  exact pow_int hc.1 hc.2 ⟨.int _, H, I.tok _, ⟨_, rfl⟩, q⟩
end

/-! ### steps of a reading -/
section
variable {σ : L2.St} {H : Hp} {Q : VK} {K : PySem.W.Frag}
theorem r_c {v : V} (q : Q v H) : tC v σ H Q := q
theorem r_nil {Q : List V → Hp → Prop} (q : Q [] H) : tNil σ H Q := q
theorem r_ix {r : R2} {x y : V} (h : r x y H Q) : r x y H Q := h
theorem ixL {p : Addr} {xs : List V} {i : Nat} {v : V} (h : H p = some (.lst xs)) (hi : xs[i]? = some v) (q : Q v H) : rIx K (.ref p) (.int (i : Int)) H Q :=
  .inl ⟨p, xs, _, v, rfl, rfl, SqL.of h, atI_nat hi, q⟩
theorem ixT {p : Addr} {xs : List V} {i : Nat} {v : V} (h : SqT K H p xs) (hi : xs[i]? = some v) (q : Q v H) : rIx K (.ref p) (.int (i : Int)) H Q :=
  .inr (.inl ⟨p, xs, _, v, rfl, rfl, h, atI_nat hi, q⟩)
theorem r_addI {i j : Int} (q : Q (.int (i + j)) H) : rAddU K (.int i) (.int j) H Q := .inl (.inl ⟨i, j, rfl, rfl, q⟩)
theorem r_gtI {i j : Int} (q : Q (.bl (decide (j < i))) H) : rGtU (.int i) (.int j) H Q := .inl ⟨i, j, rfl, rfl, q⟩
theorem r_ltI {i j : Int} (q : Q (.bl (decide (i < j))) H) : rLtU (.int i) (.int j) H Q := .inl ⟨i, j, rfl, rfl, q⟩
theorem r_mulI {i j : Int} (h : CMulW i j) (q : Q (.int (i * j)) H) : rMulU (.int i) (.int j) H Q := .inl ⟨i, j, rfl, rfl, h, q⟩
theorem r_mod {i j : Int} (h : 0 < j) (q : ∀ m : Int, 0 ≤ m → m < j → m = i % j → Q (.int m) H) : rModU (.int i) (.int j) H Q :=
  ⟨i, j, rfl, rfl, h, q _ (Int.emod_nonneg i (by omega)) (Int.emod_lt_of_pos i h) rfl⟩
theorem r_subI {i j : Int} (q : Q (.int (i - j)) H) : rSubU (.int i) (.int j) H Q := ⟨i, j, rfl, rfl, q⟩
theorem r_pow {i j : Int} (h : CPowW i j) (q : ∀ m : Int, m = i ^ j.toNat → Q (.int m) H) : rPowU (.int i) (.int j) H Q := ⟨i, j, rfl, rfl, h, q _ rfl⟩
theorem r_fdiv {i j : Int} (h0 : 0 < j) (h : j < 1073741824) (q : ∀ m : Int, m = i / j → Q (.int m) H) : rFdU (.int i) (.int j) H Q :=
  ⟨i, j, rfl, rfl, ⟨by omega, by omega⟩, by show Q (.int (i.fdiv j)) H; rw [Int.fdiv_eq_ediv_of_nonneg i (by omega)]; exact q _ rfl⟩
end
end Sd

/-! SdE: comprehensions whose turns leave what they have met -/
namespace Sd
open PySem PySem.Spec PyProof.Rows L2

/-- what a turn gives leaves the heap, or lays a new tuple -/
def Yk (Y : Nat → Hp → V → Hp → Prop) : Prop := ∀ i H x H', Y i H x H' → Go [] H H'
theorem yk_at {xs : List V} : Yk (YAt xs) := fun _ H _ _ h => by rw [h.1]; exact Go.refl _ _
theorem yk_fn {f : Nat → V} : Yk (YFn f) := fun _ H _ _ h => by rw [h.1]; exact Go.refl _ _
theorem yk_pair {f g : Nat → Option V} : Yk (YPair f g) := fun _ H _ _ ⟨T, x, y, _, hT, e, _⟩ => by rw [e]; exact Go.new hT
/-- the signs of a text -/
def YSg (z : Str) : Nat → Hp → V → Hp → Prop := fun i H v H' => H' = H ∧ ∃ c, z.cps[i]? = some c ∧ v = .str ⟨#[c]⟩
theorem yk_sg {z : Str} : Yk (YSg z) := fun _ H _ _ h => by rw [h.1]; exact Go.refl _ _
theorem walk_sg {z : Str} : Walk (Its z) z.cps.size (fun _ => True) (YSg z) := walk_str

section
variable {J : It} {n : Nat} {G : Hp → Prop} {Y : Nat → Hp → V → Hp → Prop}
/-- [e for x in .. if t]: sel tells which turns are kept; R what a kept turn's item is; Z what more stands between the turns (by the cells of M alone) -/
theorem lc_fil (w : Walk J n G Y) {g : TG} {tt : TT} {te : TE} {vs : List Nat} {σ : L2.St} {H1 : Hp} {D : Addr} {Qd : Hp → Prop} (M : List Addr) (Z : Nat → Hp → Prop) (R : Nat → V → Hp → Prop) (sel : Nat → Bool)
    (hy : Yk Y) (hn : n ≤ 100000) (hD : H1 D = none) (hM : ∀ a ∈ M, H1 a ≠ none) (gG : ∀ H, Go M H1 H → G H) (z0 : Z 0 H1) (zm : ∀ i H H', Z i H → (∀ a ∈ M, H' a = H a) → Z i H')
    (rm : ∀ i y N H H', Go N H H' → R i y H → R i y H')
    (turn : ∀ i x H H' (Fin : V → Hp → Prop) (Skip : Hp → Prop), i < n → Go M H1 H → Go [] H H' → Z i H → Y i H x H' →
      (∀ y H4, sel i = true → Go M H H4 → Z (i + 1) H4 → R i y H4 → Fin y H4) → (∀ H3, sel i = false → Go M H H3 → Z (i + 1) H3 → Skip H3) →
      g x (wipe σ vs) H' fun σ2 H2 => wipe σ2 vs = wipe σ vs ∧ tt σ2 H2 fun b H3 => if b = true then te σ2 H3 Fin else Skip H3)
    (done : ∀ H ys, Go M H1 H → Z n H → H D = some (.lst ys) → ys.length = ((List.range n).filter sel).length → (∀ (k : Nat) (y : V) (i : Nat), ys[k]? = some y → ((List.range n).filter sel)[k]? = some i → R i y H) → Qd H) :
    ∃ W : Nat → Nat → Hp → Prop, (∃ m, W 0 m (upd H1 D (.lst []))) ∧ ∀ i m H, W i m H →
      (J.stop i H ∧ Qd H) ∨ (J.go i H ∧ ∃ Nx : Hp → Prop, (∀ H', Nx H' → ∃ m', m' < m ∧ W (i + 1) m' H') ∧ ∀ x H', J.yld i H x H' → g x (wipe σ vs) H' fun σ2 H2 => wipe σ2 vs = wipe σ vs ∧ tt σ2 H2 fun b H3 =>
        if b = true then te σ2 H3 fun y H4 => ∃ acc, H4 D = some (.lst acc) ∧ acc.length < sizeLine ∧ Nx (upd H4 D (.lst (acc ++ [y]))) else Nx H3) := by
  have hDM : D ∉ M := fun h => hM D h hD
  have nM : ∀ {H : Hp} {o : HO}, ∀ a ∈ M, (upd H D o) a = H a := fun a ha => upd_ne fun e => hDM (e ▸ ha)
  refine lc_it w (fun i H => ∃ ys, Go M H1 H ∧ Z i H ∧ H D = some (.lst ys) ∧ ys.length = ((List.range i).filter sel).length ∧ ∀ (k : Nat) (y : V) (j : Nat), ys[k]? = some y → ((List.range i).filter sel)[k]? = some j → R j y H)
    ⟨[], (Go.refl M H1).mut hD, zm 0 H1 _ z0 nM, upd_same, rfl, fun k y j e => by simp at e⟩ (fun i H _ ⟨_, g1, _⟩ => gG H g1) ?_ (fun H ⟨ys, g1, z, d, l, r⟩ => done H ys g1 z d l r)
  rintro i x H H' hi ⟨ys, g1, z, d, l, r⟩ y
  have gy : Go [] H H' := hy i H x H' y
  have hlen : ys.length ≤ i := by rw [l]; exact Nat.le_trans (List.length_filter_le _ _) (by simp)
  have el : (List.range (i + 1)).filter sel = (List.range i).filter sel ++ (if sel i = true then [i] else []) := by
    rw [List.range_succ, List.filter_append]
    congr 1
    by_cases hs : sel i = true
    · simp [hs]
    · simp [hs]
  refine turn i x H H' _ _ hi g1 gy z y ?_ ?_
  · intro v H4 hb g4 z4 r4
    have d4 : H4 D = some (.lst ys) := g4.old D _ hDM d
    refine ⟨ys, d4, Nat.lt_of_lt_of_le (Nat.lt_succ_of_le hlen) (Nat.le_trans (show i + 1 ≤ 100000 by omega) (by decide)), ys ++ [v], (g1.trans g4).mut hD, zm _ H4 _ z4 nM, upd_same, ?_, ?_⟩
    · rw [el, if_pos hb]
      simp [l]
    · have gD : Go [D] H4 (upd H4 D (.lst (ys ++ [v]))) := Go.put d4 rfl (List.Mem.head _)
      intro k y' j ek ej
      rw [el, if_pos hb] at ej
      by_cases hk : k < ys.length
      · rw [List.getElem?_append_left hk] at ek
        rw [List.getElem?_append_left (by omega)] at ej
        exact rm _ _ _ _ _ gD (rm _ _ _ _ _ g4 (r k y' j ek ej))
      · have hk2 : k = ys.length := by
          have := (List.getElem?_eq_some_iff.mp ek).1
          simp at this
          omega
        subst hk2
        rw [List.getElem?_append_right (Nat.le_refl _)] at ek
        rw [l, List.getElem?_append_right (Nat.le_refl _)] at ej
        simp at ek ej
        subst ek ej
        exact rm _ _ _ _ _ gD r4
  · intro H3 hb g3 z3
    have d3 : H3 D = some (.lst ys) := g3.old D _ hDM d
    refine ⟨ys, g1.trans g3, z3, d3, ?_, ?_⟩
    · rw [el, hb]
      simpa using l
    · intro k y' j ek ej
      rw [el, hb] at ej
      exact rm _ _ _ _ _ g3 (r k y' j ek (by simpa using ej))
/-- [e for x in ..] -/
theorem lc_map (w : Walk J n G Y) {g : TG} {te : TE} {vs : List Nat} {σ : L2.St} {H1 : Hp} {D : Addr} {Qd : Hp → Prop} (M : List Addr) (Z : Nat → Hp → Prop) (R : Nat → V → Hp → Prop)
    (hy : Yk Y) (hn : n ≤ 100000) (hD : H1 D = none) (hM : ∀ a ∈ M, H1 a ≠ none) (gG : ∀ H, Go M H1 H → G H) (z0 : Z 0 H1) (zm : ∀ i H H', Z i H → (∀ a ∈ M, H' a = H a) → Z i H')
    (rm : ∀ i y N H H', Go N H H' → R i y H → R i y H')
    (turn : ∀ i x H H' (Fin : V → Hp → Prop), i < n → Go M H1 H → Go [] H H' → Z i H → Y i H x H' →
      (∀ y H4, Go M H H4 → Z (i + 1) H4 → R i y H4 → Fin y H4) → g x (wipe σ vs) H' fun σ2 H2 => wipe σ2 vs = wipe σ vs ∧ te σ2 H2 Fin)
    (done : ∀ H ys, Go M H1 H → Z n H → H D = some (.lst ys) → ys.length = n → (∀ (i : Nat) (y : V), ys[i]? = some y → R i y H) → Qd H) :
    ∃ W : Nat → Nat → Hp → Prop, (∃ m, W 0 m (upd H1 D (.lst []))) ∧ ∀ i m H, W i m H →
      (J.stop i H ∧ Qd H) ∨ (J.go i H ∧ ∃ Nx : Hp → Prop, (∀ H', Nx H' → ∃ m', m' < m ∧ W (i + 1) m' H') ∧ ∀ x H', J.yld i H x H' → g x (wipe σ vs) H' fun σ2 H2 => wipe σ2 vs = wipe σ vs ∧ tYes σ2 H2 fun b H3 =>
        if b = true then te σ2 H3 fun y H4 => ∃ acc, H4 D = some (.lst acc) ∧ acc.length < sizeLine ∧ Nx (upd H4 D (.lst (acc ++ [y]))) else Nx H3) := by
  have hDM : D ∉ M := fun h => hM D h hD
  have nM : ∀ {H : Hp} {o : HO}, ∀ a ∈ M, (upd H D o) a = H a := fun a ha => upd_ne fun e => hDM (e ▸ ha)
  refine lc_it w (fun i H => ∃ ys, Go M H1 H ∧ Z i H ∧ H D = some (.lst ys) ∧ ys.length = i ∧ ∀ (k : Nat) (y : V), ys[k]? = some y → R k y H)
    ⟨[], (Go.refl M H1).mut hD, zm 0 H1 _ z0 nM, upd_same, rfl, fun k y e => by simp at e⟩ (fun i H _ ⟨_, g1, _⟩ => gG H g1) ?_ (fun H ⟨ys, g1, z, d, l, r⟩ => done H ys g1 z d l r)
  rintro i x H H' hi ⟨ys, g1, z, d, l, r⟩ y
  refine turn i x H H' _ hi g1 (hy i H x H' y) z y ?_
  intro v H4 g4 z4 r4
  have d4 : H4 D = some (.lst ys) := g4.old D _ hDM d
  have gD : Go [D] H4 (upd H4 D (.lst (ys ++ [v]))) := Go.put d4 rfl (List.Mem.head _)
  refine ⟨ys, d4, Nat.lt_of_lt_of_le (show ys.length < 100000 by omega) (by decide), ys ++ [v], (g1.trans g4).mut hD, zm _ H4 _ z4 nM, upd_same, by simp [l], ?_⟩
  intro k y' ek
  by_cases hk : k < ys.length
  · rw [List.getElem?_append_left hk] at ek
    exact rm _ _ _ _ _ gD (rm _ _ _ _ _ g4 (r k y' ek))
  · have hk2 : k = ys.length := by
      have := (List.getElem?_eq_some_iff.mp ek).1
      simp at this
      omega
    subst hk2
    rw [List.getElem?_append_right (Nat.le_refl _)] at ek
    simp at ek
    subst ek
    rw [l]
    exact rm _ _ _ _ _ gD r4
end
end Sd

/-! SdF: isinstance of data, zip of tuples, lengths, what a comprehension over a tuple gives -/
namespace Sd
open PySem PySem.Spec PyProof.Rows L2 RZ RT

def tyName : PyData → String
  | .none => "NoneType"
  | .bool _ => "bool"
  | .int _ => "int"
  | .str _ => "str"
  | .list _ => "list"
  | .tuple _ => "tuple"
  | .dict _ => "dict"
theorem dp_ty {K : PySem.W.Frag} {H : Hp} {v : V} {d : PyData} (h : Dp K H v d) : TyX K H v (.type (tyName d)) := by
  cases h with
  | non => exact .base .non
  | bl b => exact .base (.bl b)
  | int i => exact .base (.int i)
  | str x => exact .base (.str x)
  | lst h _ =>
    rcases h with (h | ⟨o, h⟩) | h
    · exact .base (.lst h)
    · exact .base (.frz h)
    · obtain ⟨o, its, n, e, c, _⟩ := h
      exact .kList e c
  | tup h _ =>
    rcases h with (h | ⟨o, h⟩) | h
    · exact .base (.tup h)
    · exact .fTuple h
    · obtain ⟨o, its, n, e, c, _⟩ := h
      exact .kTuple e c
def isInt : PyData → Bool | .int _ | .bool _ => true | _ => false
def isBool : PyData → Bool | .bool _ => true | _ => false
def isStr : PyData → Bool | .str _ => true | _ => false
def isTup : PyData → Bool | .tuple _ => true | _ => false
def isLst : PyData → Bool | .list _ => true | _ => false
section
variable {K : PySem.W.Frag} {H : Hp} {v : V} {d : PyData} {Q : VK}
theorem r_isInt (h : Dp K H v d) (q : Q (.bl (isInt d)) H) : rIsi K [v, .ty "int"] H Q := by
  refine ⟨v, _, _, _, isInt d, rfl, .ty "int", dp_ty h, ?_, q⟩
  cases d <;> (refine kit_ty ?_) <;> dsimp only [tyName, isInt, isBool, isStr, isTup, isLst] <;> decide +kernel
theorem r_isBool (h : Dp K H v d) (q : Q (.bl (isBool d)) H) : rIsi K [v, .ty "bool"] H Q := by
  refine ⟨v, _, _, _, isBool d, rfl, .ty "bool", dp_ty h, ?_, q⟩
  cases d <;> (refine kit_ty ?_) <;> dsimp only [tyName, isInt, isBool, isStr, isTup, isLst] <;> decide +kernel
theorem r_isStr (h : Dp K H v d) (q : Q (.bl (isStr d)) H) : rIsi K [v, .ty "str"] H Q := by
  refine ⟨v, _, _, _, isStr d, rfl, .ty "str", dp_ty h, ?_, q⟩
  cases d <;> (refine kit_ty ?_) <;> dsimp only [tyName, isInt, isBool, isStr, isTup, isLst] <;> decide +kernel
theorem r_isTup (h : Dp K H v d) (q : Q (.bl (isTup d)) H) : rIsi K [v, .ty "tuple"] H Q := by
  refine ⟨v, _, _, _, isTup d, rfl, .ty "tuple", dp_ty h, ?_, q⟩
  cases d <;> (refine kit_ty ?_) <;> dsimp only [tyName, isInt, isBool, isStr, isTup, isLst] <;> decide +kernel
theorem r_isLst (h : Dp K H v d) (q : Q (.bl (isLst d)) H) : rIsi K [v, .ty "list"] H Q := by
  refine ⟨v, _, _, _, isLst d, rfl, .ty "list", dp_ty h, ?_, q⟩
  cases d <;> (refine kit_ty ?_) <;> dsimp only [tyName, isInt, isBool, isStr, isTup, isLst] <;> decide +kernel
theorem dp_tup_inv {ds : List PyData} (h : Dp K H v (.tuple ds)) : ∃ a xs, v = .ref a ∧ SqT K H a xs ∧ DpAll K H xs ds := by
  cases h with
  | tup h a => exact ⟨_, _, rfl, h, a⟩
theorem dp_lst_inv {ds : List PyData} (h : Dp K H v (.list ds)) : ∃ a xs, v = .ref a ∧ SqL K H a xs ∧ DpAll K H xs ds := by
  cases h with
  | lst h a => exact ⟨_, _, rfl, h, a⟩
theorem r_lenT {a : Addr} {xs : List V} (h : SqT K H a xs) (q : Q (.int (xs.length : Nat)) H) : rLenU K [.ref a] H Q := ⟨_, _, rfl, .inr ⟨xs, h, rfl⟩, q⟩
theorem r_lenL {a : Addr} {xs : List V} (h : SqL K H a xs) (q : Q (.int (xs.length : Nat)) H) : rLenU K [.ref a] H Q := ⟨_, _, rfl, .inl ⟨xs, h, rfl⟩, q⟩
theorem r_lenS {s : Str} (h : s.length ≤ sizeLine) (q : Q (.int (s.length : Nat)) H) : rLenU K [.str s] H Q := ⟨_, _, rfl, ⟨h, rfl⟩, q⟩
theorem r_inSg {c : Nat} {z : Str} (q : Q (.bl (decide (c ∈ z.cps.toList))) H) : rInU K (.str ⟨#[c]⟩) (.str z) H Q := .inl (.inr ⟨c, z, rfl, rfl, q⟩)
theorem r_inT {x : V} {p : Addr} {xs : List V} (h : SqT K H p xs) (hx : flatV x = true) (ha : xs.all flatV = true) (q : Q (.bl (inV x xs)) H) : rInU K x (.ref p) H Q := .inl (.inl ⟨p, xs, rfl, .inr h, hx, ha, q⟩)
theorem r_niT {x : V} {p : Addr} {xs : List V} (h : SqT K H p xs) (hx : flatV x = true) (ha : xs.all flatV = true) (q : Q (.bl (!inV x xs)) H) : rNiU K x (.ref p) H Q := .inl (.inl ⟨p, xs, rfl, .inr h, hx, ha, q⟩)
theorem r_inL {x : V} {p : Addr} {xs : List V} (h : SqL K H p xs) (hx : flatV x = true) (ha : xs.all flatV = true) (q : Q (.bl (inV x xs)) H) : rInU K x (.ref p) H Q := .inl (.inl ⟨p, xs, rfl, .inl h, hx, ha, q⟩)
theorem r_all {a : Addr} {bs : List Bool} (h : SqL K H a (bs.map V.bl)) (q : Q (.bl (bs.all id)) H) : rAll K [.ref a] H Q := ⟨a, bs, rfl, h, q⟩
end
theorem cut_from {xs : List V} (k : Nat) : cutV xs (some (k : Int)) none = xs.drop k := by
  unfold cutV
  rw [HT.sIx_nat, HT.sIx_none]
  by_cases h : k ≤ xs.length
  · rw [Nat.min_eq_left h]
    exact List.take_of_length_le (by simp)
  · rw [Nat.min_eq_right (by omega), List.drop_of_length_le (Nat.le_refl _), List.drop_of_length_le (by omega)]
    simp
theorem cut_to {xs : List V} (k : Nat) : cutV xs none (some (k : Int)) = xs.take k := by
  unfold cutV
  rw [HT.sIx_nat, HT.sIx_none, List.drop_zero, Nat.sub_zero]
  by_cases h : k ≤ xs.length
  · rw [Nat.min_eq_left h]
  · rw [Nat.min_eq_right (by omega), List.take_of_length_le (Nat.le_refl _), List.take_of_length_le (by omega)]
theorem cut_in {xs : List V} (i k : Nat) : cutV xs (some (i : Int)) (some (k : Int)) = (xs.take k).drop i := by
  unfold cutV
  rw [HT.sIx_nat, HT.sIx_nat, List.drop_take]
  by_cases h : k ≤ xs.length
  · rw [Nat.min_eq_left h]
    by_cases h2 : i ≤ xs.length
    · rw [Nat.min_eq_left h2]
    · rw [Nat.min_eq_right (by omega), List.drop_of_length_le (Nat.le_refl _), List.drop_of_length_le (by omega)]
      simp
  · rw [Nat.min_eq_right (by omega)]
    by_cases h2 : i ≤ xs.length
    · rw [Nat.min_eq_left h2, List.take_of_length_le (by simp), List.take_of_length_le (by simp; omega)]
    · rw [Nat.min_eq_right (by omega), List.drop_of_length_le (Nat.le_refl _), List.drop_of_length_le (by omega)]
      simp
theorem r_slT {K : PySem.W.Frag} {H : Hp} {Q : VK} {a : Addr} {xs : List V} {lo hi : Option Int} (h : SqT K H a xs) (k : ∀ b H', Go [] H H' → SqT K H' b (cutV xs lo hi) → Q (.ref b) H') : rSlU K (.ref a) lo hi H Q := by
  refine .inl (.inr ⟨a, xs, rfl, h, fun hw => k a H (Go.refl _ _) ?_, fun _ p hp => k p _ (Go.new hp) (SqT.of upd_same)⟩)
  unfold cutV
  rw [hw.1, hw.2, List.drop_zero, Nat.sub_zero, List.take_of_length_le (Nat.le_refl _)]
  exact h
theorem r_slL {K : PySem.W.Frag} {H : Hp} {Q : VK} {a : Addr} {xs : List V} {lo hi : Option Int} (h : SqL K H a xs) (k : ∀ b H', H b = none → Go [] H H' → H' b = some (.lst (cutV xs lo hi)) → Q (.ref b) H') : rSlU K (.ref a) lo hi H Q :=
  .inl (.inl ⟨a, xs, rfl, h, fun p hp => k p _ hp (Go.new hp) upd_same⟩)
theorem walk_zipT {K : PySem.W.Frag} {a b : Addr} {xs ys : List V} {n : Nat} (hn : n = min xs.length ys.length) : Walk (ItzT K a b) n (fun H => SqT K H a xs ∧ SqT K H b ys) (YPair (fun i => xs[i]?) (fun i => ys[i]?)) := by
  subst hn
  refine ⟨fun i H hi q => ?_, fun H q => ⟨xs, ys, q.1, q.2, by omega⟩, fun i H v H' _ q y => ?_⟩
  · exact ⟨xs, ys, xs[i]'(by omega), ys[i]'(by omega), q.1, q.2, List.getElem?_eq_getElem _, List.getElem?_eq_getElem _⟩
  · obtain ⟨T, x, z, h1, h2, h3, h4, h5⟩ := y
    exact ⟨T, x, z, h1, h2, h3, h4 xs q.1, h5 ys q.2⟩
theorem walk_revT {K : PySem.W.Frag} {a : Addr} {xs : List V} : Walk (ItvT K a xs.length) xs.length (fun H => SqT K H a xs) (fun i H x H' => H' = H ∧ xs[xs.length - 1 - i]? = some x) :=
  ⟨fun i H hi q => ⟨hi, xs, xs[xs.length - 1 - i]'(by omega), q, List.getElem?_eq_getElem _⟩, fun H q => Nat.le_refl _, fun i H x H' _ q y => ⟨y.1, y.2 xs q⟩⟩
/-- values given turn by turn are a list -/
theorem list_of {α β : Type} {f : α → β} {xs : List α} {ys : List β} (hl : ys.length = xs.length) (h : ∀ (i : Nat) (y : β), ys[i]? = some y → ∃ x, xs[i]? = some x ∧ y = f x) : ys = xs.map f := by
  apply List.ext_getElem? 
  intro i
  rw [List.getElem?_map]
  cases e : ys[i]? with
  | none =>
    have : xs[i]? = none := by
      rw [List.getElem?_eq_none_iff] at e ⊢
      omega
    rw [this]
    rfl
  | some y =>
    obtain ⟨x, hx, rfl⟩ := h i y e
    rw [hx]
    rfl
theorem list_of_fn {β : Type} {f : Nat → β} {n : Nat} {ys : List β} (hl : ys.length = n) (h : ∀ (i : Nat) (y : β), ys[i]? = some y → y = f i) : ys = (List.range n).map f := by
  refine list_of (by simpa using hl) fun i y e => ⟨i, ?_, h i y e⟩
  have := (List.getElem?_eq_some_iff.mp e).1
  exact List.getElem?_range (by omega)
end Sd

/-! M1: len(set(texts)), any texts -/
namespace Sd
open PySem PySem.Spec PyProof.Rows L2

/-- how many unlike ones stand among the first i -/
def unlike (xs : List Str) : Nat → Nat
  | 0 => 0
  | i + 1 => if (xs.take i).any (· == xs.getD i Str.empty) then unlike xs i else unlike xs i + 1
theorem unlike_le (xs : List Str) : ∀ i, unlike xs i ≤ i
  | 0 => Nat.le_refl _
  | i + 1 => by
    have := unlike_le xs i
    unfold unlike
    split <;> omega
/-- is among the first i -/
def among (xs : List Str) (i : Nat) (k : Str) : Bool := (xs.take i).any (· == k)
theorem among_succ {xs : List Str} {i : Nat} (h : i < xs.length) (k : Str) : among xs (i + 1) k = (among xs i k || decide (k = xs.getD i Str.empty)) := by
  have e : xs.take (i + 1) = xs.take i ++ [xs.getD i Str.empty] := by
    rw [List.take_add_one, List.getElem?_eq_getElem h, List.getD_eq_getElem?_getD, List.getElem?_eq_getElem h]
    rfl
  unfold among
  rw [e, List.any_append]
  congr 1
  by_cases z : k = xs.getD i Str.empty
  · simp [z]
  · have z' : (xs.getD i Str.empty == k) = false := beq_eq_false_iff_ne.mpr fun y => z y.symm
    simp only [List.any_cons, List.any_nil, z', Bool.or_false, decide_eq_false z]
section
variable {prog : Program} {w : World} {A : Around}
/-- the loop of set.update over an iterator that hands out texts -/
theorem update_texts {R : Result → Shared → Prop} {it : Addr} {fp wr : List Addr} {G : Array GenState → Array GenState → Prop} {n : Nat} {Pv : Nat → Value → Prop} {St : Nat → Shared → Prop}
    (W : WalksS prog w A.in1 it fp wr G n Pv St) {S : Addr} (off : S ∉ fp) {xs : List Str} (len : xs.length = n) (few : n + 1 < scanBound) (val : ∀ i v, Pv i v → ∃ t, v = .str (xs.getD i Str.empty) t) :
    ∀ (left i : Nat) (s : Shared), i + left = n → St i s → s.heap.SetOf (PySem.strKind prog w) S (among xs i) (unlike xs i) →
      (∀ s', Moved (S :: wr) G s s' → s'.heap.SetOf (PySem.strKind prog w) S (among xs n) (unlike xs n) → R (.ok (.ret .none)) s') →
      codeAny (model prog w) A (.builtin "set.update.loop" ⟨[.ref S, .ref it], []⟩) R s := by
  have offW : S ∉ wr := fun z => off (W.sub _ z)
  have carry : ∀ {s s' : Shared} {T : Str → Bool} {m : Nat}, Moved wr G s s' → s.heap.SetOf (PySem.strKind prog w) S T m → s'.heap.SetOf (PySem.strKind prog w) S T m := by
    rintro s s' T m mv ⟨o, es, ep, t, ho, z⟩
    exact ⟨o, es, ep, t, mv.heap S _ offW ho, z⟩
  intro left
  induction left with
  | zero =>
    intro i s hi st hS fin
    obtain rfl : i = n := by omega
    apply codeAny_builtin PyProof.Rows.F.entry_set_update_loop
    rw [Around.under_plainId PyProof.Rows.F.plain_set_update_loop _]
    change wpAny _ A.in1 (pyNext (.ref it) >>= _) _ _ s
    apply wpAny_bind
    refine W.done s _ _ st fun s' mv => ?_
    change wpAny _ A.in1 (ret Value.none) _ _ s'
    exact wpAny_pure (fin s' (mv.mono fun b hb => List.mem_cons_of_mem _ hb) (carry mv hS))
  | succ left ih =>
    intro i s hi st hS fin
    have lt : i < n := by omega
    apply codeAny_builtin PyProof.Rows.F.entry_set_update_loop
    rw [Around.under_plainId PyProof.Rows.F.plain_set_update_loop _]
    change wpAny _ A.in1 (pyNext (.ref it) >>= _) _ _ s
    apply wpAny_bind
    refine W.item i s _ _ lt st fun v s' pv st' mv => ?_
    rcases val i v pv with ⟨t, rfl⟩
    change wpAny _ A.in1 (holding [Value.str (xs.getD i Str.empty) t] (setAdd S (.str (xs.getD i Str.empty) t)) >>= _) _ _ s'
    apply wpAny_bind
    apply wpAny_holding
    unfold setAdd
    apply wpAny_holding
    apply wpAny_bind
    refine (PySem.strKind prog w).pyHash (k := xs.getD i Str.empty) (strKind_is _ _ _ _) ?_
    have room : unlike xs i + 1 < scanBound := by
      have := unlike_le xs i
      omega
    refine wpAny_setAddHashed_of (knd := PySem.strKind prog w) (s := { s' with toks := s'.toks + 1 }) (strKind_is _ _ _ _) rfl (show s'.heap.SetOf _ _ _ _ from carry mv hS) room fun h' but hS2 => ?_
    have hS3 : h'.SetOf (PySem.strKind prog w) S (among xs (i + 1)) (unlike xs (i + 1)) := PyProof.Rows.SetOf_congr hS2 (fun k => (among_succ (by omega) k).symm) rfl
    refine wpAny_pure ⟨plainId_quiet PyProof.Rows.F.plain_set_update_loop _, ih (i + 1) _ (by omega) (W.frame _ s' _ _ st' (Nat.le_succ _) fun b hb o e => ?_) hS3 fun s'' mv2 hS4 => fin s'' (Moved.trans W.gtrans ((mv.mono fun b hb => List.mem_cons_of_mem _ hb).then_heap (Nat.le_succ _) fun b o hb e => ?_) mv2) hS4⟩
    · exact (but.2 b fun z => off (z ▸ hb)).trans e
    · exact (but.2 b fun z => hb (z ▸ List.mem_cons_self)).trans e
end

section
variable {prog : Program} {w : World} {A : Around} {E : Value → Shared → Prop} {s : Shared}
/-- set(l), l a list of texts -/
theorem set_of_texts {l : Addr} {items : Array Value} {xs : List Str} {Q : Value → Shared → Prop} (calm : A.handled = none) (hl : s.heap.IsList l items) (txt : PyProof.Rows.StrsAre items.toList xs) (few : xs.length + 1 < scanBound)
    (h : ∀ (h' : Heap) (tk : Nat), h'.SetOf (PySem.strKind prog w) s.heap.objs.size (among xs xs.length) (unlike xs xs.length) → (∀ b o, b < s.heap.objs.size → s.heap.get? b = some o → h'.get? b = some o) → Q (.ref s.heap.objs.size) { s with heap := h', toks := tk }) :
    wpAny (model prog w) A (call (.type "set") [.ref l]) Q E s := by
  rcases PySem.F.called_set with ⟨no1, can, ⟨c, tl, mro⟩, made, _, sub, ini⟩
  have many : xs.length = items.size := by rw [← StrsAre.len_eq txt, Array.length_toList]
  have one := PySem.F.typeCall_set_1 (.ref l)
  apply wpAny_call
  apply codeAny_of_tree
  change wpAny _ _ (callAny (.type "set") _) _ _ _
  refine wpAny_pure ⟨Code.quiet_builtin _ (by decide +kernel), codeAny_builtin PySem.F.entry_type_call ?_⟩
  rw [Around.under_plain (weight_type_call_type "set" [.ref l] []) rfl]
  repeat (any_goals first | assumption | wp_step)
  -- the empty set, then its __init__
  refine codeAny_mono (code_set_new_1 (.ref l) (E := E) (Q₁ := fun obj s1 => ∃ led : Bool, obj = .ref s.heap.objs.size ∧ s1 = { s with heap := s.heap.push { cls := .type "set", dict := none, data := .set #[] 0 (.fresh 0 0 led) } }) fun led => ⟨led, rfl, rfl⟩) ?_
  intro r s1 hr
  match r, hr with
  | .error _, hr => exact hr
  | .ok .next, hr => exact hr.elim
  | .ok .brk, hr => exact hr.elim
  | .ok .cont, hr => exact hr.elim
  | .ok (.ret _), ⟨led, e1, e2⟩ =>
    subst e1 e2
    generalize eo : ({ cls := .type "set", dict := none, data := .set #[] 0 (.fresh 0 0 led) } : Obj) = o
    have new : (s.heap.push o).get? s.heap.objs.size = some o := by
      subst eo
      exact Heap.get?_push_size _ rfl
    have isSet : Shared.TypeIs { s with heap := s.heap.push o } (.ref s.heap.objs.size) "set" := ⟨o, new, by rw [← eo]⟩
    have look := ini.lookup
    have bnd := ini.bind (.ref s.heap.objs.size)
    repeat (any_goals first | assumption | wp_step)
    refine codeAny_mono (codeAny_call_builtin (R := wants (fun r s2 => r = .none ∧ ∃ h' tk, s2 = { s with heap := h', toks := tk } ∧ h'.SetOf (PySem.strKind prog w) s.heap.objs.size (among xs xs.length) (unlike xs xs.length) ∧
      (∀ b o, b < s.heap.objs.size → s.heap.get? b = some o → h'.get? b = some o)) E) ini.plain PySem.F.entry_set_init (check_set_init_1 isSet ?_)) ?_
    · -- the walk over the list
      subst eo
      rcases hl with ⟨⟨ocl, odc, odt, osl⟩, hol, hcl, nl, hdl⟩
      dsimp only at hcl hdl
      subst hcl hdl
      have hol2 : (s.heap.push { cls := .type "set", dict := none, data := .set #[] 0 (.fresh 0 0 led) }).get? l = some { cls := .type "list", dict := odc, data := .seq items nl, slots := osl } := Heap.get?_push_of_some _ hol
      have asList : (s.heap.push { cls := .type "set", dict := none, data := .set #[] 0 (.fresh 0 0 led) }).IsList l items := ⟨_, hol2, rfl, nl, rfl⟩
      have n1 := PySem.F.sub_list_set
      have n2 := PySem.F.sub_list_frozenset
      have n3 : (Value.type "list" == Value.type "dict") = false := by decide
      have below : l < s.heap.objs.size := Heap.lt_size hol
      have sz : (s.heap.push { cls := .type "set", dict := none, data := .set #[] 0 (.fresh 0 0 led) }).objs.size = s.heap.objs.size + 1 := Heap.size_push ..
      unfold Builtin.«set.__init__» noKeywords Builtin.Frozenset.updateFrom
      generalize itr : pyIter = P
      wp_walk
      subst itr
      refine wpAny_pyIter_list asList ?_
      refine wpAny_bind (wpAny_runValue ?_)
      have off : s.heap.objs.size ∉ [(s.heap.push { cls := .type "set", dict := none, data := .set #[] 0 (.fresh 0 0 led) }).objs.size, l] := by
        simp only [List.mem_cons, List.not_mem_nil, or_false, not_or]
        exact ⟨fun z => by rw [sz] at z; exact Nat.ne_of_lt (Nat.lt_succ_self _) z, fun z => Nat.ne_of_lt below z.symm⟩
      have few2 : items.size + 1 < scanBound := by omega
      have apart : l ≠ (s.heap.push { cls := .type "set", dict := none, data := .set #[] 0 (.fresh 0 0 led) }).objs.size := fun z => by rw [sz] at z; exact Nat.ne_of_lt (Nat.lt_succ_of_lt below) z
      refine update_texts ((Walks.list (by simp [calm] : A.in1.in1.in1.handled = none) _ l apart items).toS) (S := s.heap.objs.size) off (xs := xs) many few2
        (fun i v hv => SS.strs_at txt i v (by rw [Array.getElem?_toList]; exact hv)) items.size 0 _ (by omega) ⟨⟨_, Heap.get?_push_size _ rfl, rfl, rfl⟩, asList.push _⟩ ?_ ?_
      · have got : ((s.heap.push { cls := .type "set", dict := none, data := .set #[] 0 (.fresh 0 0 led) }).push { cls := .type "list_iterator", data := .fields #[.ref l, .int 0 0] }).get? s.heap.objs.size = some { cls := .type "set", dict := none, data := .set #[] 0 (.fresh 0 0 led) } := Heap.get?_push_of_some _ new
        exact PyProof.Rows.SetOf_congr ((PyProof.Rows.setObjOf_fresh (knd := PySem.strKind prog w) led).setOf got (by unfold scanBound; omega)) (fun _ => rfl) rfl
      · rintro ⟨h', g', d', tk', os'⟩ mv hS
        cases mv.gens
        cases mv.drawn
        cases mv.os
        change wpAny _ _ _ _ _ _
        apply wpAny_pure
        change wpAny _ _ (ret Value.none) _ _ _
        refine wpAny_pure ⟨rfl, h', tk', rfl, by rw [many]; exact hS, fun b u hb e => ?_⟩
        refine mv.heap b u (fun z => ?_) (Heap.get?_push_of_some _ (Heap.get?_push_of_some _ e))
        rcases List.mem_cons.mp z with z | z
        · exact Nat.ne_of_lt hb z
        · have z2 := List.mem_singleton.mp z
          rw [sz] at z2
          exact Nat.ne_of_lt (Nat.lt_succ_of_lt hb) z2
    · intro r2 s2 hr2
      match r2, hr2 with
      | .error _, hr2 => exact hr2
      | .ok .next, hr2 => exact hr2.elim
      | .ok .brk, hr2 => exact hr2.elim
      | .ok .cont, hr2 => exact hr2.elim
      | .ok (.ret _), ⟨e1, h', tk, e2, hS, kept⟩ =>
        subst e1 e2
        repeat (any_goals first | assumption | wp_step)
        exact h _ _ hS kept
end
end Sd

/-! M2: len(set(texts)), the rule -/
namespace Sd
open PySem PySem.Spec PyProof.Rows L2
/-- len(set(xs)), xs a list of texts -/
def tLenSetT (K : PySem.W.Frag) (ta : TE) : TE := fun σ H Q => ta σ H fun x H1 => ∃ l, ∃ xs : List Str, x = .ref l ∧ SqL K H1 l (xs.map V.str) ∧ xs.length ≤ 4000 ∧ Q (.int (unlike xs xs.length : Nat)) H1
section
variable {X : Cx}
theorem pe_lenSetT {a : Expr} {ta : TE} {p p2 q pos : Pos} (hc : X.calm = true) (hg : Gl X "len") (hm : X.mg "len" = none) (hg2 : Gl X "set") (hm2 : X.mg "set" = none) (ha : PE X a ta)
    (na : starEach [a] X.env = (false, eval a X.env) :: starEach [] X.env := by rfl) : PE X (.Call (.Name "len" p) [.Call (.Name "set" p2) [a] [] q] [] pos) (tLenSetT X.K ta) := by
  refine ⟨fun pins s σ H Q I h => ?_⟩
  refine Call_ (ld_blt I hg hm boot_len ?_)
  refine PyProof.Rows.callWith_builtin1 (PyProof.Rows.args_cons ?_ rfl) rfl rfl
  refine Call_ (ld_blt I hg2 hm2 boot_set ?_)
  refine PyProof.Rows.callWith_type1 (PyProof.Rows.args_cons (thn (ha.run pins s σ H _ I h) fun v s1 ⟨x, H1, I1, r1, q1⟩ => PyProof.Rows.args_nil ?_) na) na rfl
  obtain ⟨l, xs, rfl, hq, h1, q1⟩ := q1
  cases r1
  obtain ⟨its, r, pl, hz⟩ := I1.list hq
  have sb : scanBound = 4096 := rfl
  have ul := unlike_le xs xs.length
  refine set_of_texts (I1.ok.hd hc) pl.isList (xs := xs) (by simpa using strsAre_of r) (by omega) fun h' tk hS hk => ?_
  refine PyProof.Rows.args_nil ?_
  obtain ⟨o, es, ep, t, ho, hex, hd, _, _, _, hf, hn⟩ := hS
  have I2 : Inv X pins σ H1 { s1 with heap := h', toks := tk } := I1.kept fun b o e => hk b o (Heap.lt_size e) e
  refine call_len_set ho hex hd hf (by rw [hn] <;> omega) ⟨.int (unlike xs xs.length : Nat), H1, I2.tok _, ⟨_, by rw [hn]⟩, q1⟩
end
theorem unlike_nodup {xs : List Str} (h : xs.Nodup) : ∀ i, i ≤ xs.length → unlike xs i = i
  | 0, _ => rfl
  | i + 1, hi => by
    have ih := unlike_nodup h i (by omega)
    have e : ((xs.take i).any (· == xs.getD i Str.empty)) = false := by
      rw [List.getD_eq_getElem?_getD, List.getElem?_eq_getElem (by omega)]
      refine Bool.eq_false_iff.mpr fun y => ?_
      obtain ⟨x, hx, hxe⟩ := List.any_eq_true.mp y
      have hxe : x = xs[i] := by simpa using hxe
      obtain ⟨j, hj, hje⟩ := List.getElem_of_mem hx
      have hj' : j < i := by simp at hj; omega
      have : xs[j] = xs[i] := by
        rw [← hxe, ← hje]
        simp
      have := (List.getElem_inj h).mp this
      omega
    unfold unlike
    rw [e, ih]
    rfl
end Sd

/-! M3: comprehensions of two clauses, nothing left out -/
namespace Sd
open PySem PySem.Spec PyProof.Rows L2
section
variable {J : It} {n : Nat} {G : Hp → Prop} {Y : Nat → Hp → V → Hp → Prop}
/-- the inner walk's promise, in the i-th turn -/
def Inn (P : Nat → Nat → List V → Hp → Prop) (H1 : Hp) (D : Addr) (g1 : TG) (te : TE) (vs1 : List Nat) (i : Nat) (σ2 : L2.St) (J1 : It) (H4 : Hp) (ys : List V) : Prop :=
  ∃ n1 G1 Y1, Walk J1 n1 G1 Y1 ∧ Yk Y1 ∧ Go [] H1 H4 ∧ H4 D = some (.lst ys) ∧ P i 0 ys H4 ∧ (∀ H5, Go [D] H4 H5 → G1 H5) ∧ (∀ zs H5, P i n1 zs H5 → P (i + 1) 0 zs H5) ∧
    ∀ j y H5 H6 zs (Fin : V → Hp → Prop), j < n1 → Go [] H1 H5 → Go [D] H4 H5 → P i j zs H5 → Y1 j H5 y H6 → (∀ v H7, Go [] H6 H7 → P i (j + 1) (zs ++ [v]) H7 → Fin v H7) →
      g1 y (wipe σ2 vs1) H6 fun σ3 H8 => wipe σ3 vs1 = wipe σ2 vs1 ∧ te σ3 H8 Fin
theorem lc2_map (w : Walk J n G Y) {wi1 : TI} {g g1 : TG} {te : TE} {vs vs1 : List Nat} {σ : L2.St} {H1 : Hp} {D : Addr} {Qd : Hp → Prop} (P : Nat → Nat → List V → Hp → Prop)
    (hy : Yk Y) (hD : H1 D = none) (gG : ∀ H, Go [] H1 H → G H) (p0 : P 0 0 [] H1) (pm : ∀ i j ys N H H', Go N H H' → P i j ys H → P i j ys H') (pz : ∀ i j ys H, P i j ys H → ys.length ≤ 100000)
    (turn : ∀ i x H H' ys (Fin : L2.St → It → Hp → Prop), i < n → Go [] H1 H → P i 0 ys H → Y i H x H' → Go [] H H' → H' D = some (.lst ys) →
      (∀ σ2 J1 H4, Inn P H1 D g1 te vs1 i σ2 J1 H4 ys → Fin σ2 J1 H4) →
      g x (wipe σ vs) H' fun σ2 H2 => wipe σ2 vs = wipe σ vs ∧ wi1 σ2 H2 (Fin σ2))
    (done : ∀ H ys, Go [] H1 H → P n 0 ys H → H D = some (.lst ys) → Qd H) :
    ∃ W : Nat → Nat → Hp → Prop, (∃ m, W 0 m (upd H1 D (.lst []))) ∧ ∀ i m H, W i m H →
      (J.stop i H ∧ Qd H) ∨ (J.go i H ∧ ∃ Nx : Hp → Prop, (∀ H', Nx H' → ∃ m', m' < m ∧ W (i + 1) m' H') ∧ ∀ x H', J.yld i H x H' → g x (wipe σ vs) H' fun σ2 H2 => wipe σ2 vs = wipe σ vs ∧ tYes σ2 H2 fun b H3 =>
        if b = true then wi1 σ2 H3 fun J1 H4 => ∃ W1 : Nat → Nat → Hp → Prop, (∃ m, W1 0 m H4) ∧ ∀ j k H, W1 j k H →
          (J1.stop j H ∧ Nx H) ∨ (J1.go j H ∧ ∃ Nx1 : Hp → Prop, (∀ H', Nx1 H' → ∃ k', k' < k ∧ W1 (j + 1) k' H') ∧ ∀ x H', J1.yld j H x H' → g1 x (wipe σ2 vs1) H' fun σ3 H5 => wipe σ3 vs1 = wipe σ2 vs1 ∧ tYes σ3 H5 fun b H6 =>
            if b = true then te σ3 H6 fun y H7 => ∃ acc, H7 D = some (.lst acc) ∧ acc.length < sizeLine ∧ Nx1 (upd H7 D (.lst (acc ++ [y]))) else Nx1 H6)
        else Nx H3) := by
  refine ⟨fun i m H => m = n - i ∧ i ≤ n ∧ ∃ ys, Go [] H1 H ∧ P i 0 ys H ∧ H D = some (.lst ys), ⟨n, by simp, Nat.zero_le _, [], (Go.refl [] H1).mut hD, pm _ _ _ [] _ _ ((Go.refl [] H1).mut hD) p0, upd_same⟩, ?_⟩
  rintro i m H ⟨rfl, hi, ys, gH, p, d⟩
  have q := gG H gH
  by_cases hlt : i < n
  · refine .inr ⟨w.goes i H hlt q, fun H' => ∃ ys, Go [] H1 H' ∧ P (i + 1) 0 ys H' ∧ H' D = some (.lst ys), fun H' p' => ⟨n - (i + 1), by omega, rfl, hlt, p'⟩, fun x H' y => ?_⟩
    have yy := w.yields i H x H' hlt q y
    have gy := hy i H x H' yy
    refine turn i x H H' ys _ hlt gH p yy gy (gy.old D _ (fun z => nomatch z) d) ?_
    rintro σ2 J1 H4 ⟨n1, G1, Y1, w1, hy1, g14, d4, p4, gG1, last, turn1⟩
    refine ⟨fun j k H => k = n1 - j ∧ j ≤ n1 ∧ ∃ zs, Go [] H1 H ∧ Go [D] H4 H ∧ P i j zs H ∧ H D = some (.lst zs), ⟨n1, by simp, Nat.zero_le _, ys, g14, Go.refl _ _, p4, d4⟩, ?_⟩
    rintro j k H5 ⟨rfl, hj, zs, g15, g45, p5, d5⟩
    have q5 := gG1 H5 g45
    by_cases hlt1 : j < n1
    · refine .inr ⟨w1.goes j H5 hlt1 q5, fun H => ∃ zs, Go [] H1 H ∧ Go [D] H4 H ∧ P i (j + 1) zs H ∧ H D = some (.lst zs), fun H' p' => ⟨n1 - (j + 1), by omega, rfl, hlt1, p'⟩, fun x1 H6 y1 => ?_⟩
      have yy1 := w1.yields j H5 x1 H6 hlt1 q5 y1
      have gy1 := hy1 j H5 x1 H6 yy1
      refine turn1 j x1 H5 H6 zs _ hlt1 g15 g45 p5 yy1 ?_
      intro v H7 g67 p7
      have d7 : H7 D = some (.lst zs) := g67.old D _ (fun z => nomatch z) (gy1.old D _ (fun z => nomatch z) d5)
      have z7 := pz _ _ _ _ p7
      have gD : Go [D] H7 (upd H7 D (.lst (zs ++ [v]))) := Go.put d7 rfl (List.Mem.head _)
      have l : zs.length < 100000 := by simp at z7; omega
      refine ⟨zs, d7, Nat.lt_of_lt_of_le l (by decide), zs ++ [v], ((g15.trans gy1).trans g67).mut hD, ((g45.trans gy1.wide).trans g67.wide).trans gD, pm _ _ _ _ _ _ gD p7, upd_same⟩
    · have e1 : j = n1 := by omega
      subst e1
      exact .inl ⟨w1.stops H5 q5, zs, g15, last zs H5 p5, d5⟩
  · have e : i = n := by omega
    subst e
    exact .inl ⟨w.stops H q, done H ys gH p d⟩
end
end Sd

/-! M4: itertools.combinations, at the library's level -/
namespace Cmb
open PySem PySem.Spec
open Sem (wp)
theorem mro_c : mroOf (.type "itertools.combinations") = pure [.type "itertools.combinations", .type "object"] := by rw [mroOf_type]; kernel_rfl
theorem lookup_c_new : typeLookup (.type "itertools.combinations") "__new__" = pure (some (.builtin "itertools.combinations.__new__")) := by rw [typeLookup_type, builtinLookup_eq_fast]; kernel_rfl
theorem sub_c : isSubtype (.type "itertools.combinations") (.type "itertools.combinations") = pure true := by rw [isSubtype_type]; kernel_rfl
theorem slot_c_init : Slot "itertools.combinations" "__init__" "object.__init__" :=
  .of (owner := "object") (n := "__init__") (by rw [typeLookup_type, builtinLookup_eq_fast]; kernel_rfl) (by decide +kernel) (by decide +kernel) (by decide +kernel)
    (by first | exact .inl (by decide +kernel) | exact .inr (by decide +kernel)) (by rw [isSubtype_type]; kernel_rfl)
theorem called_c : TypeCalled "itertools.combinations" "itertools.combinations.__new__" "object.__init__" :=
  ⟨by decide +kernel, by decide +kernel, ⟨_, _, mro_c⟩, madeBy_type mro_c lookup_c_new (by decide +kernel), by decide +kernel, sub_c, slot_c_init⟩
theorem typeCall_c (a b : Value) : checkTypeCall "itertools.combinations" ⟨[a, b], []⟩ = pure () := by kernel_rfl
theorem newCall_c (a b : Value) : checkBuiltinCall "itertools.combinations.__new__" ⟨[.type "itertools.combinations", a, b], []⟩ = pure () := by kernel_rfl
theorem entry_c_new : entryFor table "itertools.combinations.__new__" = some Builtin.«itertools.combinations.__new__» := entryFor_of_tree (by kernel_rfl)
theorem plain_c_new : plainId "itertools.combinations.__new__" = true := by decide +kernel
theorem slot_c_iter : Slot "itertools.combinations" "__iter__" "itertools.combinations.__iter__" :=
  .of (owner := "itertools.combinations") (n := "__iter__") (by rw [typeLookup_type, builtinLookup_eq_fast]; kernel_rfl) (by decide +kernel) (by decide +kernel) (by decide +kernel)
    (by first | exact .inl (by decide +kernel) | exact .inr (by decide +kernel)) sub_c
theorem slot_c_next : Slot "itertools.combinations" "__next__" "itertools.combinations.__next__" :=
  .of (owner := "itertools.combinations") (n := "__next__") (by rw [typeLookup_type, builtinLookup_eq_fast]; kernel_rfl) (by decide +kernel) (by decide +kernel) (by decide +kernel)
    (by first | exact .inl (by decide +kernel) | exact .inr (by decide +kernel)) sub_c
theorem entry_c_iter : entryFor table "itertools.combinations.__iter__" = some Builtin.«dict_keyiterator.__iter__» :=
  entryFor_alias (id' := "dict_keyiterator.__iter__") (by kernel_rfl) (by first | rfl | decide +kernel | (unfold String.splitOn; simp +decide [String.splitOnAux])) (by decide +kernel) (by kernel_rfl)
theorem entry_c_next : entryFor table "itertools.combinations.__next__" = some Builtin.«itertools.combinations.__next__» := entryFor_of_tree (by kernel_rfl)
theorem owner_c : Manifest.owners.lookup (String.ofList "itertools.combinations".toList.reverse.reverse) = some Manifest.sig_itertools_combinations := by kernel_rfl
theorem args_c_iter (a : Value) : argsOk "itertools.combinations.__iter__" ⟨[a], []⟩ := by
  unfold argsOk; rw [signature?_of (id := "itertools.combinations.__iter__") (n := "__iter__".toList.reverse) (o := "itertools.combinations".toList.reverse) (by kernel_rfl) owner_c]; kernel_rfl
theorem args_c_next (a : Value) : argsOk "itertools.combinations.__next__" ⟨[a], []⟩ := by
  unfold argsOk; rw [signature?_of (id := "itertools.combinations.__next__") (n := "__next__".toList.reverse) (o := "itertools.combinations".toList.reverse) (by kernel_rfl) owner_c]; kernel_rfl
theorem noDict_c : typeHasDict (.type "itertools.combinations") = false := by decide +kernel
theorem noLen_c : typeLookup (.type "itertools.combinations") "__len__" = pure none := by rw [typeLookup_type, builtinLookup_eq_fast]; kernel_rfl
theorem noHint_c : typeLookup (.type "itertools.combinations") "__length_hint__" = pure none := by rw [typeLookup_type, builtinLookup_eq_fast]; kernel_rfl
end Cmb

namespace Cmb
open PySem PySem.Spec
open Sem (wp)
def cObj (pool : Addr) (st : Nat) (last : Value) (ix : List Nat) : Obj := { cls := .type "itertools.combinations", data := .fields ([Value.ref pool, rawInt (st : Int), last] ++ ix.map fun (i : Nat) => rawInt (i : Int)).toArray }
section
variable {prog : Program} {w : World} {A : Around} {E : Value → Shared → Prop} {s : Shared}
theorem code_c_new {Q₁ : Value → Shared → Prop} {l : Addr} {items : Array Value} {r : Nat} {t : Tok} (hl : s.heap.IsList l items) (hr : r ≤ items.size) (hz : items.size ≤ 1000)
    (h : ∀ (h' : Heap) (pool : Addr), (∀ b o, s.heap.get? b = some o → h'.get? b = some o) → h'.get? pool = some { cls := .type "tuple", data := .seq items } → s.heap.get? pool = none → h'.get? h'.objs.size = none →
      Q₁ (.ref h'.objs.size) { s with heap := h'.push (cObj pool 0 .none (List.range r)) }) :
    codeAny (model prog w) A (.call (.builtin "itertools.combinations.__new__") ⟨[.type "itertools.combinations", .ref l, .int (r : Int) t], []⟩) (wants Q₁ E) s := by
  refine codeAny_of_tree ?_
  show wpAny _ A.in1 (do checkBuiltinCall "itertools.combinations.__new__" ⟨[.type "itertools.combinations", .ref l, .int (r : Int) t], []⟩; again (.builtin "itertools.combinations.__new__" ⟨[.type "itertools.combinations", .ref l, .int (r : Int) t], []⟩)) _ _ s
  refine wpAny_bind (wpAny_of_eq (newCall_c _ _) (wpAny_pure ⟨plainId_quiet plain_c_new _, codeAny_builtin entry_c_new ?_⟩))
  rw [Around.under_plainId plain_c_new _]
  have hsub := sub_c
  have hd := noDict_c
  obtain ⟨o, ho, hc, n, hdat⟩ := id hl
  have hn : ¬ ((decide ((r : Int) < -2 ^ 63) || decide ((r : Int) ≥ 2 ^ 63)) = true) := by
    rw [decide_eq_false (by omega), decide_eq_false (by omega)]
    decide
  have htm : ¬ (Builtin.Itertools.itTooMany (r : Int) = true) := by
    unfold Builtin.Itertools.itTooMany
    rw [decide_eq_false (by omega)]
    decide
  unfold Builtin.«itertools.combinations.__new__»
  refine wpAny_bind ?_
  show wpAny _ _ (Builtin.Itertools.itClassAndRest "combinations" _ >>= _) _ _ s
  repeat (first
    | wp_step
    | simp only [List.head?_cons, Option.some_or, List.getElem?_cons_succ, List.getElem?_cons_zero, List.length_cons, List.length_nil, List.forIn_nil])
  rw [show ("itertools." ++ "combinations" : String) = "itertools.combinations" from by decide]
  refine wpAny_of_eq hsub ?_
  refine wpAny_pure ?_
  show wpAny _ _ (Builtin.Itertools.itBindNamed "combinations" ["iterable", "r"] 2 2 [Value.ref l, Value.int (r : Int) t] [] >>= _) _ _ s
  refine wpAny_bind ?_
  have bn : Builtin.Itertools.itBindNamed "combinations" ["iterable", "r"] 2 2 [Value.ref l, Value.int (r : Int) t] [] = pure [some (Value.ref l), some (Value.int (r : Int) t)] := by
    unfold Builtin.Itertools.itBindNamed
    rfl
  refine wpAny_of_eq bn ?_
  show wpAny _ _ (Builtin.Itertools.itSsizeArg (Value.int (r : Int) t) >>= _) _ _ s
  unfold Builtin.Itertools.itSsizeArg
  refine wpAny_bind (wpAny_bind ?_)
  repeat (first | wp_step)
  rw [if_neg hn]
  refine wpAny_pure ?_
  refine wpAny_bind (wpAny_collect_seq l (.inl rfl) ho hc hdat (fun h' hk => ?_) (by rw [sizeLine_eq]; omega))
  rw [if_neg (by omega), if_neg htm]
  refine wpAny_bind (wpAny_newTuple ?_ (by rw [Array.length_toList, sizeLine_eq]; omega))
  refine wpAny_pure ?_
  unfold Builtin.Itertools.itNewRecord
  dsimp only
  have hlen : items.toList.length = items.size := Array.length_toList
  rw [hd, Int.toNat_natCast, hlen, if_neg (show ¬ r > items.size by omega)]
  refine wpAny_bind ?_
  show wpAny _ _ (newObj (.type "itertools.combinations") (.fields _)) _ _ _
  refine wpAny_newObj_type ?_ ?_
  · refine wpAny_pure ?_
    have hp : (h'.push { cls := .type "tuple", data := .seq items.toList.toArray }).get? h'.objs.size = some { cls := .type "tuple", data := .seq items.toList.toArray } := Heap.get?_push_size _ rfl
    refine h (h'.push { cls := .type "tuple", data := .seq items.toList.toArray }) h'.objs.size (fun b o e => Heap.get?_push_of_some _ (hk b o e)) ?_ ?_ ?_
    · rw [hp]
    · cases e : s.heap.get? h'.objs.size with
      | none => rfl
      | some o => exact absurd (Heap.lt_size (hk _ _ e)) (Nat.lt_irrefl _)
    · cases e : (h'.push { cls := .type "tuple", data := .seq items.toList.toArray }).get? (h'.push { cls := .type "tuple", data := .seq items.toList.toArray }).objs.size with
      | none => rfl
      | some o => exact absurd (Heap.lt_size e) (Nat.lt_irrefl _)
  · show (([Value.ref h'.objs.size, rawInt 0, Value.none] ++ (List.range r).map fun (i : Nat) => rawInt (i : Int)).toArray).size ≤ sizeLine + 2
    rw [List.size_toArray, List.length_append, List.length_map, List.length_range, sizeLine_eq]
    show 3 + r ≤ _
    omega
theorem call_c {Q : Value → Shared → Prop} {l : Addr} {items : Array Value} {r : Nat} {t : Tok} (hl : s.heap.IsList l items) (hr : r ≤ items.size) (hz : items.size ≤ 1000)
    (h : ∀ (h' : Heap) (pool : Addr), (∀ b o, s.heap.get? b = some o → h'.get? b = some o) → h'.get? pool = some { cls := .type "tuple", data := .seq items } → s.heap.get? pool = none → h'.get? h'.objs.size = none →
      Q (.ref h'.objs.size) { s with heap := h'.push (cObj pool 0 .none (List.range r)) }) :
    wpAny (model prog w) A (call (.type "itertools.combinations") [.ref l, .int (r : Int) t]) Q E s := by
  refine callType_codes (Q₁ := fun obj s₁ => s₁.TypeIs obj "itertools.combinations" ∧ Q obj s₁) called_c (typeCall_c _ _) F.entry_object_init
    (code_c_new hl hr hz fun h' pool a b c d => ⟨⟨_, Heap.get?_push_size _ rfl, rfl⟩, h h' pool a b c d⟩) fun obj s₁ h₁ => ?_
  exact ⟨h₁.1, F.args_object_init_3 obj _ _, object_init_meets called_c.init.lookup called_c.made (by decide) prog w A.in1 _ s₁ ⟨h₁.1, rfl, h₁.2⟩⟩
end
end Cmb

namespace Cmb
open PySem PySem.Spec
open Sem (wp)
/-- the next indices, if there are any -/
def nextC (n : Nat) (ix : List Nat) : Option (List Nat) :=
  match (List.range ix.length).reverse.find? fun i => ix.getD i 0 != i + n - ix.length with
  | none => none
  | some i => some (ix.take i ++ (List.range (ix.length - i)).map (ix.getD i 0 + 1 + ·))
def pickC (items : Array Value) (ix : List Nat) : List Value := ix.map fun i => items.getD i .none
section
variable {prog : Program} {w : World} {A : Around} {E : Value → Shared → Prop} {s : Shared}
theorem nums_c {it pool : Addr} {st : Nat} {last : Value} {ix : List Nat} {Q : List Nat → Shared → Prop} (hit : s.heap.get? it = some (cObj pool st last ix)) (h : Q ix s) :
    wpAny (model prog w) A (Builtin.Itertools.itNumbersFrom (.ref it) 3) Q E s := by
  unfold Builtin.Itertools.itNumbersFrom
  refine wpAny_bind (wpAny_load hit ?_)
  refine wpAny_pure ?_
  have e : ((([Value.ref pool, rawInt (st : Int), last] ++ ix.map fun (i : Nat) => rawInt (i : Int)).toArray).toList.drop 3).map (fun | .int n _ => n.toNat | _ => 0) = ix := by
    show ((ix.map fun (i : Nat) => rawInt (i : Int))).map _ = ix
    rw [List.map_map]
    conv => rhs; rw [← List.map_id ix]
    exact List.map_congr_left fun i _ => rfl
  show Q (((([Value.ref pool, rawInt (st : Int), last] ++ ix.map fun (i : Nat) => rawInt (i : Int)).toArray).toList.drop 3).map (fun | .int n _ => n.toNat | _ => 0)) s
  rw [e]
  exact h
def handC (it pool : Addr) (ix : List Nat) : Sem Fin :=
  (Builtin.Itertools.itPoolItems (.ref pool) >>= fun items => newTuple (ix.map fun i => items.getD i .none)) >>= fun result => field (.ref it) 2 >>= fun before => setField (.ref it) 2 result >>= fun _ => letGo [before] [result] >>= fun _ => ret result
theorem map1 (pool : Addr) (st k : Nat) (last : Value) (ix : List Nat) : Obj.mapFields (·.setIfInBounds 1 (rawInt (k : Int))) (cObj pool st last ix) = cObj pool k last ix := by
  simp [Obj.mapFields, cObj, rawInt]
theorem map2 (pool : Addr) (st : Nat) (last x : Value) (ix : List Nat) : Obj.mapFields (·.setIfInBounds 2 x) (cObj pool st last ix) = cObj pool st x ix := by
  simp [Obj.mapFields, cObj, rawInt]
theorem hand_c {it pool : Addr} {st : Nat} {items : Array Value} {last : Value} {ix ix0 : List Nat} {Q : Fin → Shared → Prop} (hit : s.heap.get? it = some (cObj pool st last ix0)) (hp : s.heap.get? pool = some { cls := .type "tuple", data := .seq items })
    (hz : ix.length ≤ 1000)
    (h : ∀ (h' : Heap) (t : Addr), s.heap.get? t = none → h'.get? t = some { cls := .type "tuple", data := .seq (pickC items ix).toArray } → h'.get? it = some (cObj pool st (.ref t) ix0) →
      (∀ b o, b ≠ it → s.heap.get? b = some o → h'.get? b = some o) → Q (.done (.ret (.ref t))) { s with heap := h' }) :
    wpAny (model prog w) A (handC it pool ix) Q E s := by
  unfold handC Builtin.Itertools.itPoolItems
  refine wpAny_bind (wpAny_bind (wpAny_bind (wpAny_seqItems hp rfl ?_)))
  refine wpAny_pure ?_
  refine wpAny_newTuple ?_ (by rw [List.length_map, sizeLine_eq]; omega)
  have hn : s.heap.get? s.heap.objs.size = none := by
    cases e : s.heap.get? s.heap.objs.size with
    | none => rfl
    | some o => exact absurd (Heap.lt_size e) (Nat.lt_irrefl _)
  have hit1 : (s.heap.push { cls := .type "tuple", data := .seq (pickC items ix).toArray }).get? it = some (cObj pool st last ix0) := Heap.get?_push_of_some _ hit
  have hni : it ≠ s.heap.objs.size := fun e => by rw [← e, hit] at hn; cases hn
  refine wpAny_bind (wpAny_field hit1 rfl (x := last) rfl ?_)
  refine wpAny_bind (wpAny_setField hit1 rfl (by simp) ?_)
  refine wpAny_bind (wpAny_letGo ?_)
  refine wpAny_pure ?_
  have e2 := Heap.get?_update_self (Obj.mapFields (·.setIfInBounds 2 (Value.ref s.heap.objs.size))) hit1 rfl
  rw [map2] at e2
  refine h _ s.heap.objs.size hn ?_ e2 fun b o hb e => ?_
  · exact (Heap.get?_update_other _ _ hni).trans (Heap.get?_push_size _ rfl)
  · exact (Heap.get?_update_other _ _ (Ne.symm hb)).trans (Heap.get?_push_of_some _ e)
theorem next_first {it pool : Addr} {items : Array Value} {last : Value} {ix : List Nat} {Q : Option Value → Shared → Prop} (hit : s.heap.get? it = some (cObj pool 0 last ix)) (hp : s.heap.get? pool = some { cls := .type "tuple", data := .seq items })
    (hz : ix.length ≤ 1000)
    (h : ∀ (h' : Heap) (t : Addr), s.heap.get? t = none → h'.get? t = some { cls := .type "tuple", data := .seq (pickC items ix).toArray } → h'.get? it = some (cObj pool 1 (.ref t) ix) →
      (∀ b o, b ≠ it → s.heap.get? b = some o → h'.get? b = some o) → Q (some (.ref t)) { s with heap := h' }) :
    wpAny (model prog w) A (pyNext (.ref it)) Q E s := by
  have hT : s.TypeIs (.ref it) "itertools.combinations" := ⟨_, hit, rfl⟩
  unfold pyNext
  refine wpAny_bind (wpAny_attempt (wpAny_callSpecial?_slot (name := Str.ofString "__next__") hT slot_c_next (wpAny_call_entry slot_c_next hT entry_c_next ?_ (args_c_next _))))
  show wpAny _ _ (field (.ref it) 0 >>= _) _ _ s
  refine wpAny_bind (wpAny_field hit rfl (x := .ref pool) rfl ?_)
  show wpAny _ _ (Builtin.Itertools.itNumbersFrom (.ref it) 3 >>= _) _ _ s
  refine wpAny_bind (nums_c hit ?_)
  show wpAny _ _ (Builtin.Itertools.itIntField (.ref it) 1 >>= _) _ _ s
  unfold Builtin.Itertools.itIntField
  refine wpAny_bind (wpAny_bind (wpAny_field hit rfl (x := rawInt 0) rfl ?_))
  refine wpAny_pure ?_
  show wpAny _ _ (setField (.ref it) 1 (rawInt 1) >>= fun _ => handC it pool ix) _ _ s
  refine wpAny_bind (wpAny_setField hit rfl (by simp) ?_)
  have e1 := Heap.get?_update_self (Obj.mapFields (·.setIfInBounds 1 (rawInt 1))) hit rfl
  have e1 : (s.heap.update it (Obj.mapFields (·.setIfInBounds 1 (rawInt 1)))).get? it = some (cObj pool 1 last ix) := e1.trans (congrArg some (map1 pool 0 1 last ix))
  have hpi : it ≠ pool := fun e => by
    rw [← e, hit] at hp
    have z : some (Value.type "itertools.combinations") = some (Value.type "tuple") := congrArg (Option.map Obj.cls) hp
    simp at z
  have hp1 : (s.heap.update it (Obj.mapFields (·.setIfInBounds 1 (rawInt 1)))).get? pool = _ := (Heap.get?_update_other _ _ hpi).trans hp
  refine hand_c (s := { s with heap := s.heap.update it (Obj.mapFields (·.setIfInBounds 1 (rawInt 1))) }) e1 hp1 hz fun h' t ht htt hi hk => ⟨.ref t, rfl, wpAny_pure ?_⟩
  refine h h' t ?_ htt hi fun b o hb e => hk b o hb ((Heap.get?_update_other _ _ (Ne.symm hb)).trans e)
  cases e : s.heap.get? t with
  | none => rfl
  | some o =>
    by_cases z : it = t
    · subst z
      exact absurd (ht.symm.trans e1) (by simp)
    · exact absurd (ht.symm.trans ((Heap.get?_update_other _ _ z).trans e)) (by simp)
end
end Cmb

namespace Cmb
open PySem PySem.Spec
open Sem (wp)
section
variable {prog : Program} {w : World} {A : Around} {E : Value → Shared → Prop} {s : Shared}
theorem map3 (pool : Addr) (st : Nat) (last : Value) (ix nx : List Nat) : Obj.mapFields (fun fs => fs.extract 0 3 ++ (nx.map fun (n : Nat) => rawInt (n : Int)).toArray) (cObj pool st last ix) = cObj pool st last nx := by
  simp [Obj.mapFields, cObj, rawInt]
theorem hpi_c {it pool : Addr} {st : Nat} {items : Array Value} {last : Value} {ix : List Nat} (hit : s.heap.get? it = some (cObj pool st last ix)) (hp : s.heap.get? pool = some { cls := .type "tuple", data := .seq items }) : it ≠ pool := fun e => by
  rw [← e, hit] at hp
  have z : some (Value.type "itertools.combinations") = some (Value.type "tuple") := congrArg (Option.map Obj.cls) hp
  simp at z
theorem old_none {it t : Addr} {f : Obj → Obj} {o : Obj} (hit : (s.heap.update it f).get? it = some o) (ht : (s.heap.update it f).get? t = none) : s.heap.get? t = none := by
  cases e : s.heap.get? t with
  | none => rfl
  | some o =>
    by_cases z : it = t
    · subst z
      exact absurd (ht.symm.trans hit) (by simp)
    · exact absurd (ht.symm.trans ((Heap.get?_update_other _ _ z).trans e)) (by simp)
theorem next_more {it pool : Addr} {items : Array Value} {last : Value} {ix nx : List Nat} {Q : Option Value → Shared → Prop} (hit : s.heap.get? it = some (cObj pool 1 last ix)) (hp : s.heap.get? pool = some { cls := .type "tuple", data := .seq items })
    (hx : nextC items.size ix = some nx) (hz : nx.length ≤ 1000)
    (h : ∀ (h' : Heap) (t : Addr), s.heap.get? t = none → h'.get? t = some { cls := .type "tuple", data := .seq (pickC items nx).toArray } → h'.get? it = some (cObj pool 1 (.ref t) nx) →
      (∀ b o, b ≠ it → s.heap.get? b = some o → h'.get? b = some o) → Q (some (.ref t)) { s with heap := h' }) :
    wpAny (model prog w) A (pyNext (.ref it)) Q E s := by
  have hT : s.TypeIs (.ref it) "itertools.combinations" := ⟨_, hit, rfl⟩
  unfold pyNext
  refine wpAny_bind (wpAny_attempt (wpAny_callSpecial?_slot (name := Str.ofString "__next__") hT slot_c_next (wpAny_call_entry slot_c_next hT entry_c_next ?_ (args_c_next _))))
  show wpAny _ _ (field (.ref it) 0 >>= _) _ _ s
  refine wpAny_bind (wpAny_field hit rfl (x := .ref pool) rfl ?_)
  show wpAny _ _ (Builtin.Itertools.itNumbersFrom (.ref it) 3 >>= _) _ _ s
  refine wpAny_bind (nums_c hit ?_)
  show wpAny _ _ (Builtin.Itertools.itIntField (.ref it) 1 >>= _) _ _ s
  unfold Builtin.Itertools.itIntField
  refine wpAny_bind (wpAny_bind (wpAny_field hit rfl (x := rawInt 1) rfl ?_))
  refine wpAny_pure ?_
  show wpAny _ _ (Builtin.Itertools.itPoolItems (.ref pool) >>= fun xs => match nextC xs.size ix with | some next => (Builtin.Itertools.itSetNumbersFrom (.ref it) 3 next >>= fun _ => handC it pool next) | none => (setField (.ref it) 1 (rawInt 2) >>= fun _ => Builtin.Itertools.itStop)) _ _ s
  refine wpAny_bind ?_
  unfold Builtin.Itertools.itPoolItems
  refine wpAny_bind (wpAny_seqItems hp rfl ?_)
  refine wpAny_pure ?_
  rw [hx]
  show wpAny _ _ (updateFields it (fun fs => fs.extract 0 3 ++ (nx.map fun (n : Nat) => rawInt (n : Int)).toArray) >>= fun _ => handC it pool nx) _ _ s
  refine wpAny_bind (wpAny_updateFields hit rfl ?_ ?_)
  · have e1 := Heap.get?_update_self (Obj.mapFields (fun fs => fs.extract 0 3 ++ (nx.map fun (n : Nat) => rawInt (n : Int)).toArray)) hit rfl
    rw [map3] at e1
    have hp1 : (s.heap.update it (Obj.mapFields (fun fs => fs.extract 0 3 ++ (nx.map fun (n : Nat) => rawInt (n : Int)).toArray))).get? pool = _ := (Heap.get?_update_other _ _ (hpi_c hit hp)).trans hp
    refine hand_c (s := { s with heap := s.heap.update it (Obj.mapFields (fun fs => fs.extract 0 3 ++ (nx.map fun (n : Nat) => rawInt (n : Int)).toArray)) }) e1 hp1 hz fun h' t ht htt hi hk => ⟨.ref t, rfl, wpAny_pure ?_⟩
    exact h h' t (old_none e1 ht) htt hi fun b o hb e => hk b o hb ((Heap.get?_update_other _ _ (Ne.symm hb)).trans e)
  · rw [Array.size_append, sizeLine_eq]
    have a : ((nx.map fun (n : Nat) => rawInt (n : Int)).toArray).size = nx.length := by simp
    have : ((([Value.ref pool, rawInt ((1 : Nat) : Int), last] ++ ix.map fun (i : Nat) => rawInt (i : Int)).toArray).extract 0 3).size ≤ 3 := by
      rw [Array.size_extract]
      omega
    omega
theorem next_end {it pool : Addr} {items : Array Value} {last : Value} {ix : List Nat} {Q : Option Value → Shared → Prop} (hh : A.handled = none) (hit : s.heap.get? it = some (cObj pool 1 last ix)) (hp : s.heap.get? pool = some { cls := .type "tuple", data := .seq items })
    (hx : nextC items.size ix = none)
    (h : ∀ (h' : Heap), (∀ b o, b ≠ it → s.heap.get? b = some o → h'.get? b = some o) → Q none { s with heap := h' }) :
    wpAny (model prog w) A (pyNext (.ref it)) Q E s := by
  have hT : s.TypeIs (.ref it) "itertools.combinations" := ⟨_, hit, rfl⟩
  unfold pyNext
  refine wpAny_bind (wpAny_attempt (wpAny_callSpecial?_slot (name := Str.ofString "__next__") hT slot_c_next (wpAny_call_entry slot_c_next hT entry_c_next ?_ (args_c_next _))))
  show wpAny _ _ (field (.ref it) 0 >>= _) _ _ s
  refine wpAny_bind (wpAny_field hit rfl (x := .ref pool) rfl ?_)
  show wpAny _ _ (Builtin.Itertools.itNumbersFrom (.ref it) 3 >>= _) _ _ s
  refine wpAny_bind (nums_c hit ?_)
  show wpAny _ _ (Builtin.Itertools.itIntField (.ref it) 1 >>= _) _ _ s
  unfold Builtin.Itertools.itIntField
  refine wpAny_bind (wpAny_bind (wpAny_field hit rfl (x := rawInt 1) rfl ?_))
  refine wpAny_pure ?_
  show wpAny _ _ (Builtin.Itertools.itPoolItems (.ref pool) >>= fun xs => match nextC xs.size ix with | some next => (Builtin.Itertools.itSetNumbersFrom (.ref it) 3 next >>= fun _ => handC it pool next) | none => (setField (.ref it) 1 (rawInt 2) >>= fun _ => Builtin.Itertools.itStop)) _ _ s
  refine wpAny_bind ?_
  unfold Builtin.Itertools.itPoolItems
  refine wpAny_bind (wpAny_seqItems hp rfl ?_)
  refine wpAny_pure ?_
  rw [hx]
  refine wpAny_bind (wpAny_setField hit rfl (by simp) ?_)
  show wpAny _ _ (newExc (.type "StopIteration") [] >>= _) _ _ _
  refine wpAny_bind ?_
  simp only [newExc, newTuple]
  refine wpAny_bind (wpAny_newObj_type ?_ (by size_fits))
  refine wpAny_bind (m := firstArgMember _ _) (wpAny_of_eq (a := Value.none) (by first | rfl | (simp only [firstArgMember]; rfl)) ?_)
  refine wpAny_newObj_type ?_ (by size_fits)
  simp only [raiseNew]
  refine wpAny_bind (wpAny_handled ?_)
  first | rw [show A.in1.handled = none from hh] | rw [hh]
  refine wpAny_bind (wpAny_pure (wpAny_throw ?_))
  refine wpAny_bind (wpAny_isInstance (T := "StopIteration") (b := true) ⟨_, Heap.get?_push_size _ rfl, rfl⟩ PySem.isSubtype_stop ?_)
  refine wpAny_pure (h _ fun b o hb e => ?_)
  exact Heap.get?_push_of_some _ (Heap.get?_push_of_some _ ((Heap.get?_update_other _ _ (Ne.symm hb)).trans e))
end
end Cmb

namespace Cmb
open PySem PySem.Spec
open Sem (wp)
/-- the i-th step of the way through cs -/
def CSt (h : Heap) (I pool : Addr) (cs : List (List Nat)) : Nat → Prop
  | 0 => ∃ last ix, cs[0]? = some ix ∧ h.get? I = some (cObj pool 0 last ix)
  | j + 1 => ∃ last ix, cs[j]? = some ix ∧ h.get? I = some (cObj pool 1 last ix)
theorem CSt.there {h : Heap} {I pool : Addr} {cs : List (List Nat)} : ∀ {i : Nat}, CSt h I pool cs i → ∃ st last ix, h.get? I = some (cObj pool st last ix)
  | 0, ⟨_, _, _, e⟩ => ⟨_, _, _, e⟩
  | _ + 1, ⟨_, _, _, e⟩ => ⟨_, _, _, e⟩
theorem CSt.keep {h h' : Heap} {I pool : Addr} {cs : List (List Nat)} (k : ∀ o, h.get? I = some o → h'.get? I = some o) : ∀ {i : Nat}, CSt h I pool cs i → CSt h' I pool cs i
  | 0, ⟨_, _, e1, e⟩ => ⟨_, _, e1, k _ e⟩
  | _ + 1, ⟨_, _, e1, e⟩ => ⟨_, _, e1, k _ e⟩
structure MadeC (items : Array Value) (cs : List (List Nat)) (h₁ h : Heap) (as : List Addr) : Prop where
  new : ∀ a ∈ as, h₁.get? a = none
  uni : as.Nodup
  pairs : ∀ (j : Nat) (a : Addr), as[j]? = some a → ∃ ix, cs[j]? = some ix ∧ h.get? a = some { cls := .type "tuple", data := .seq (pickC items ix).toArray }
structure Chain (n : Nat) (cs : List (List Nat)) : Prop where
  some : cs ≠ []
  step : ∀ (j : Nat) (a : List Nat), cs[j]? = Option.some a → nextC n a = cs[j + 1]?
  few : cs.length ≤ 1000
  short : ∀ a ∈ cs, a.length ≤ 1000
section
variable {prog : Program} {w : World} {A : Around} {E : Value → Shared → Prop} {s : Shared}
theorem item_c {I pool : Addr} {items : Array Value} {cs : List (List Nat)} {i : Nat} {ix : List Nat} {Q : Option Value → Shared → Prop} (C : Chain items.size cs) (hst : CSt s.heap I pool cs i) (hp : s.heap.get? pool = some { cls := .type "tuple", data := .seq items })
    (hi : cs[i]? = some ix)
    (h : ∀ (h' : Heap) (t : Addr), s.heap.get? t = none → h'.get? t = some { cls := .type "tuple", data := .seq (pickC items ix).toArray } → CSt h' I pool cs (i + 1) →
      (∀ b o, b ≠ I → s.heap.get? b = some o → h'.get? b = some o) → Q (some (.ref t)) { s with heap := h' }) :
    wpAny (model prog w) A (pyNext (.ref I)) Q E s := by
  cases i with
  | zero =>
    obtain ⟨last, ix', e1, e⟩ := hst
    rw [hi] at e1
    cases e1
    exact next_first e hp (C.short _ (List.mem_of_getElem? hi)) fun h' t a b c d => h h' t a b ⟨_, _, hi, c⟩ d
  | succ j =>
    obtain ⟨last, ix', e1, e⟩ := hst
    have := C.step j ix' e1
    rw [hi] at this
    exact next_more e hp this (C.short _ (List.mem_of_getElem? hi)) fun h' t a b c d => h h' t a b ⟨_, _, hi, c⟩ d
theorem end_c {I pool : Addr} {items : Array Value} {cs : List (List Nat)} {Q : Option Value → Shared → Prop} (hh : A.handled = none) (C : Chain items.size cs) (hst : CSt s.heap I pool cs cs.length) (hp : s.heap.get? pool = some { cls := .type "tuple", data := .seq items })
    (h : ∀ (h' : Heap), (∀ b o, b ≠ I → s.heap.get? b = some o → h'.get? b = some o) → Q none { s with heap := h' }) :
    wpAny (model prog w) A (pyNext (.ref I)) Q E s := by
  cases e : cs.length with
  | zero => exact absurd (List.length_eq_zero_iff.mp e) C.some
  | succ j =>
    rw [e] at hst
    obtain ⟨last, ix', e1, e2⟩ := hst
    have := C.step j ix' e1
    rw [List.getElem?_eq_none (by omega)] at this
    exact next_end hh e2 hp this h
theorem loop_c {R : Result → Shared → Prop} {S I pool : Addr} {items : Array Value} {cs : List (List Nat)} (hh : A.handled = none) (C : Chain items.size cs) (hSI : S ≠ I) (hSp : pool ≠ S) (res : Value) {h₁ : Heap}
    {oS oI : Obj} (hS1 : h₁.get? S = some oS) (hI1 : h₁.get? I = some oI)
    (hR : ∀ h' acc c as, (∀ b o, b ≠ S → b ≠ I → h₁.get? b = some o → h'.get? b = some o) → h'.get? S = some { cls := .type "list", dict := none, data := .seq acc c, slots := #[] } → as.length = cs.length → MadeC items cs h₁ h' as →
      acc.toList = as.map Value.ref → R (.ok (.ret res)) { s with heap := h' }) :
    ∀ (k i : Nat) (h : Heap) (c : Nat) (acc : Array Value) (as : List Addr), cs.length - i = k → i ≤ cs.length → CSt h I pool cs i → h.get? pool = some { cls := .type "tuple", data := .seq items } →
      (∀ b o, b ≠ S → b ≠ I → h₁.get? b = some o → h.get? b = some o) →
      h.get? S = some { cls := .type "list", dict := none, data := .seq acc c, slots := #[] } → acc.toList = as.map Value.ref → as.length = i → MadeC items cs h₁ h as →
      codeAny (model prog w) A (.builtin "list.extend.loop" ⟨[.ref S, .ref I, res], []⟩) R { s with heap := h } := by
  intro k
  induction k with
  | zero =>
    intro i h c acc as hk hi hst hp hkeep hS hacc hal hG
    have hin : i = cs.length := by omega
    subst hin
    refine codeAny_builtin F.entry_extend_loop ?_
    rw [Around.under_plainId F.plain_extend_loop _]
    show wpAny _ A.in1 (pyNext (.ref I) >>= _) _ _ _
    refine wpAny_bind (end_c (s := { s with heap := h }) (A := A.in1) hh C hst hp fun h' hk' => ?_)
    have nI : ∀ a ∈ as, a ≠ I := fun a ha z => by have := hG.new a ha; rw [z, hI1] at this; cases this
    refine wpAny_pure (hR h' acc c as (fun b o h1 h2 e => hk' b o h2 (hkeep b o h1 h2 e)) (hk' S _ hSI hS) hal ⟨hG.new, hG.uni, fun j a hj => ?_⟩ hacc)
    obtain ⟨ix, e1, e2⟩ := hG.pairs j a hj
    exact ⟨ix, e1, hk' a _ (nI a (List.mem_of_getElem? hj)) e2⟩
  | succ k ih =>
    intro i h c acc as hk hi hst hp hkeep hS hacc hal hG
    have hlt : i < cs.length := by omega
    obtain ⟨ix, hix⟩ : ∃ ix, cs[i]? = some ix := ⟨_, List.getElem?_eq_getElem hlt⟩
    have hsz : acc.size = i := by rw [← Array.length_toList, hacc, List.length_map, hal]
    have few := C.few
    obtain ⟨st, la, ixx, hI⟩ := hst.there
    refine codeAny_builtin F.entry_extend_loop ?_
    rw [Around.under_plainId F.plain_extend_loop _]
    show wpAny _ A.in1 (pyNext (.ref I) >>= _) _ _ _
    refine wpAny_bind (item_c (s := { s with heap := h }) C hst hp hix fun h' t ht htt hst' hk' => ?_)
    dsimp only at ht hk' ⊢
    have hS' := hk' S _ hSI hS
    have tS : t ≠ S := fun z => by rw [z, hS] at ht; cases ht
    have tI : t ≠ I := fun z => by rw [z, hI] at ht; cases ht
    have nI : ∀ a ∈ as, a ≠ I := fun a ha z => by have := hG.new a ha; rw [z, hI1] at this; cases this
    have nS : ∀ a ∈ as, a ≠ S := fun a ha z => by have := hG.new a ha; rw [z, hS1] at this; cases this
    have up : ∀ b o, b ≠ S → h'.get? b = some o → (h'.update S (Obj.mapSeq (·.push (Value.ref t)))).get? b = some o := fun b o hb e => (Heap.get?_update_other _ _ (Ne.symm hb)).trans e
    have pI : pool ≠ I := fun z => by
      rw [z, hI] at hp
      have z : some (Value.type "itertools.combinations") = some (Value.type "tuple") := congrArg (Option.map Obj.cls) hp
      simp at z
    show wpAny _ A.in1 (updateSeq S (·.push (Value.ref t)) >>= _) _ _ _
    refine wpAny_bind ?_
    refine wpAny_updateSeq hS' rfl (wpAny_pure ⟨plainId_quiet F.plain_extend_loop _, ih (i + 1) _ _ (acc.push (Value.ref t)) (as ++ [t]) (by omega) hlt (hst'.keep fun o e => up I o (Ne.symm hSI) e) (up pool _ hSp (hk' pool _ pI hp))
      (fun b o h1 h2 e => up b o h1 (hk' b o h2 (hkeep b o h1 h2 e))) (Heap.get?_update_self _ hS' rfl) ?_ ?_ ⟨?_, ?_, ?_⟩⟩) ?_ ?_
    · rw [Array.toList_push, hacc, List.map_append]
      rfl
    · rw [List.length_append, hal]
      rfl
    · intro a ha
      rcases List.mem_append.mp ha with ha | ha
      · exact hG.new a ha
      · rw [List.mem_singleton.mp ha]
        cases e : h₁.get? t with
        | none => rfl
        | some o => rw [hkeep t o tS tI e] at ht; cases ht
    · refine List.nodup_append.mpr ⟨hG.uni, by simp, ?_⟩
      intro a ha b hb z
      rw [List.mem_singleton.mp hb] at z
      obtain ⟨j, hj⟩ := List.mem_iff_getElem?.mp ha
      obtain ⟨_, _, e⟩ := hG.pairs j a hj
      rw [z, ht] at e
      cases e
    · intro j b hj
      rcases Nat.lt_trichotomy j as.length with h1 | h1 | h1
      · rw [List.getElem?_append_left h1] at hj
        obtain ⟨e', e1, e3⟩ := hG.pairs j b hj
        have hb := List.mem_of_getElem? hj
        exact ⟨e', e1, up b _ (nS b hb) (hk' b _ (nI b hb) e3)⟩
      · subst h1
        have hb : t = b := by simpa using hj
        subst hb
        exact ⟨ix, by rw [hal]; exact hix, up _ _ tS htt⟩
      · have hnone : (as ++ [t])[j]? = none := List.getElem?_eq_none (by rw [List.length_append, List.length_singleton]; omega)
        rw [hnone] at hj
        cases hj
    · rw [hsz, sizeLine_eq]
      omega
    · show (acc.push (Value.ref t)).size ≤ sizeLine + 1
      rw [Array.size_push, hsz, sizeLine_eq]
      omega
end
end Cmb

namespace Cmb
open PySem PySem.Spec
open Sem (wp)
section
variable {prog : Program} {w : World} {A : Around} {E : Value → Shared → Prop} {s : Shared}
theorem iter_c {I pool : Addr} {st : Nat} {last : Value} {ix : List Nat} {Q : Value → Shared → Prop} (hit : s.heap.get? I = some (cObj pool st last ix)) (h : Q (.ref I) s) : wpAny (model prog w) A (pyIter (.ref I)) Q E s := by
  have hT : s.TypeIs (.ref I) "itertools.combinations" := ⟨_, hit, rfl⟩
  refine wpAny_pyIter_slot hT slot_c_iter (wpAny_call_entry slot_c_iter hT entry_c_iter ?_ (args_c_iter _))
  show wpAny _ _ (ret (.ref I)) _ _ s
  exact wpAny_pure ⟨_, rfl, "itertools.combinations", _, hT, slot_c_next.lookup, h⟩
theorem MadeC.back {items : Array Value} {cs : List (List Nat)} {h₀ h₁ h : Heap} {as : List Addr} (g : MadeC items cs h₁ h as) (k : ∀ b o, h₀.get? b = some o → ∃ o', h₁.get? b = some o') : MadeC items cs h₀ h as :=
  ⟨(fun a ha => by
    cases e : h₀.get? a with
    | none => rfl
    | some o =>
      obtain ⟨o', e'⟩ := k _ _ e
      rw [g.new a ha] at e'
      exact absurd e' (by simp)), g.uni, g.pairs⟩
theorem collect_c {I pool : Addr} {items : Array Value} {cs : List (List Nat)} {Q : List Value → Shared → Prop} (hh : A.handled = none) (C : Chain items.size cs) (hst : CSt s.heap I pool cs 0) (hp : s.heap.get? pool = some { cls := .type "tuple", data := .seq items })
    (hQ : ∀ (h' : Heap) (as : List Addr), (∀ b o, b ≠ I → s.heap.get? b = some o → h'.get? b = some o) → as.length = cs.length → MadeC items cs s.heap h' as → Q (as.map Value.ref) { s with heap := h' }) :
    wpAny (model prog w) A (collect (.ref I)) Q E s := by
  obtain ⟨last, ix, hc0, hI⟩ := id hst
  have hIlt : I < s.heap.objs.size := Heap.lt_size hI
  have hSI : s.heap.objs.size ≠ I := Nat.ne_of_gt hIlt
  have hSp : pool ≠ s.heap.objs.size := Nat.ne_of_lt (Heap.lt_size hp)
  unfold collect
  refine wpAny_bind (wpAny_runValue (codeAny_builtin F.entry_proto_collect ?_))
  rw [Around.under_plainId F.plain_proto_collect _]
  show wpAny _ A.in1 (newList [] >>= fun l => again (.builtin "list.__iadd__" ⟨[l, .ref I], []⟩)) _ _ s
  refine wpAny_bind (wpAny_newObj_type ?_)
  refine wpAny_pure ⟨plainId_quiet F.plain_list_iadd _, codeAny_builtin F.entry_list_iadd ?_⟩
  rw [Around.under_plainId F.plain_list_iadd _]
  have hI1 : (s.heap.push { cls := .type "list", data := .seq ([] : List Value).toArray }).get? I = _ := Heap.get?_push_of_some _ hI
  have hT1 : Shared.TypeIs { s with heap := s.heap.push { cls := .type "list", data := .seq ([] : List Value).toArray } } (.ref I) "itertools.combinations" := ⟨_, hI1, rfl⟩
  show wpAny _ A.in1 (Builtin.List.listExtendWith (.ref s.heap.objs.size) (.ref I) (.ref s.heap.objs.size)) _ _ _
  unfold Builtin.List.listExtendWith
  refine wpAny_bind (wpAny_typeOf hT1 ?_)
  have h1 : Builtin.List.listSameRef (.ref s.heap.objs.size) (.ref I) = false := by simp [Builtin.List.listSameRef, hSI]
  have h2 : (Value.type "itertools.combinations" == Value.type "list") = false := by decide
  have h3 : (Value.type "itertools.combinations" == Value.type "tuple") = false := by decide
  simp only [h1, h2, h3, Bool.or_false, Bool.false_eq_true, if_false]
  refine wpAny_bind (iter_c hI1 ?_)
  refine wpAny_bind (wpAny_holding ?_)
  unfold Builtin.List.listLengthHint
  refine wpAny_bind (wpAny_specialOf hT1 noLen_c ?_)
  show wpAny _ A.in1 (specialOf (Value.ref I) (Str.ofString "__length_hint__") >>= _) _ _ _
  refine wpAny_bind (wpAny_specialOf hT1 noHint_c ?_)
  refine wpAny_pure ?_
  show wpAny _ A.in1 (rule "list.extend.makes-room" >>= fun _ => Builtin.List.listTouch (.ref s.heap.objs.size) >>= fun _ =>
    again (.builtin "list.extend.loop" ⟨[.ref s.heap.objs.size, .ref I, .ref s.heap.objs.size], []⟩)) _ _ _
  refine wpAny_bind (wpAny_rule ?_)
  have hS₁ : (s.heap.push { cls := .type "list", data := .seq ([] : List Value).toArray }).get? s.heap.objs.size = some { cls := .type "list", data := .seq ([] : List Value).toArray } := Heap.get?_push_size _ rfl
  refine wpAny_bind ?_
  show wpAny _ A.in1 (updateSeq s.heap.objs.size (·.push .none) >>= fun _ => updateSeq s.heap.objs.size (·.pop)) _ _ _
  refine wpAny_bind (wpAny_updateSeq hS₁ rfl ?_)
  have hS₂ := Heap.get?_update_self (Obj.mapSeq (·.push Value.none)) hS₁ rfl
  refine wpAny_updateSeq hS₂ rfl ?_
  have hS₃ := Heap.get?_update_self (Obj.mapSeq (·.pop)) hS₂ rfl
  have oth : ∀ b o, b ≠ s.heap.objs.size → (s.heap.push { cls := .type "list", data := .seq ([] : List Value).toArray }).get? b = some o →
      (((s.heap.push { cls := .type "list", data := .seq ([] : List Value).toArray }).update s.heap.objs.size (Obj.mapSeq (·.push Value.none))).update s.heap.objs.size (Obj.mapSeq (·.pop))).get? b = some o :=
    fun b o hb e => (Heap.get?_update_other _ _ (Ne.symm hb)).trans ((Heap.get?_update_other _ _ (Ne.symm hb)).trans e)
  have old : ∀ b o, s.heap.get? b = some o → (((s.heap.push { cls := .type "list", data := .seq ([] : List Value).toArray }).update s.heap.objs.size (Obj.mapSeq (·.push Value.none))).update s.heap.objs.size (Obj.mapSeq (·.pop))).get? b = some o :=
    fun b o e => oth b o (Nat.ne_of_lt (Heap.lt_size e)) (Heap.get?_push_of_some _ e)
  refine wpAny_pure ⟨plainId_quiet F.plain_extend_loop _, loop_c (s := s) (A := A) hh C hSI hSp _ hS₃ (old I _ hI) (fun h' acc c as hk hS' hl hG hacc => ?_) cs.length 0 _ _ _ [] rfl (Nat.zero_le _) ⟨last, ix, hc0, old I _ hI⟩ (old pool _ hp)
    (fun b o _ _ e => e) hS₃ rfl rfl ⟨(fun a ha => nomatch ha), List.nodup_nil, (fun j a hj => by simp at hj)⟩⟩
  show wpAny _ A (load s.heap.objs.size >>= _) _ _ _
  refine wpAny_bind (wpAny_load hS' ?_)
  refine wpAny_pure ?_
  show Q acc.toList _
  rw [hacc]
  exact hQ h' as (fun b o hb e => hk b o (Nat.ne_of_lt (Heap.lt_size e)) hb (old b o e)) hl (hG.back fun b o e => ⟨o, old b o e⟩)
theorem code_tuple_c {Q₁ : Value → Shared → Prop} {I pool : Addr} {items : Array Value} {cs : List (List Nat)} (hh : A.handled = none) (C : Chain items.size cs) (hst : CSt s.heap I pool cs 0) (hp : s.heap.get? pool = some { cls := .type "tuple", data := .seq items })
    (h : ∀ (h' : Heap) (as : List Addr), (∀ b o, b ≠ I → s.heap.get? b = some o → h'.get? b = some o) → as.length = cs.length → MadeC items cs s.heap h' as → Q₁ (.ref h'.objs.size) { s with heap := h'.push { cls := .type "tuple", data := .seq (as.map Value.ref).toArray } }) :
    codeAny (model prog w) A (.call (.builtin "tuple.__new__") ⟨[.type "tuple", .ref I], []⟩) (wants Q₁ E) s := by
  obtain ⟨st, last, ix, hI⟩ := hst.there
  refine codeAny_of_tree ?_
  show wpAny _ A.in1 (do checkBuiltinCall "tuple.__new__" ⟨[.type "tuple", .ref I], []⟩; again (.builtin "tuple.__new__" ⟨[.type "tuple", .ref I], []⟩)) _ _ s
  refine wpAny_bind (wpAny_of_eq (F.newCall_tuple_1 _) (wpAny_pure ⟨plainId_quiet F.plain_tuple_new _, codeAny_builtin F.entry_tuple_new ?_⟩))
  rw [Around.under_plainId F.plain_tuple_new _]
  have hsub := sub_tuple_self
  have hinit := init_tuple_lookup
  have hmh := madeHere_tuple
  have hTI : s.TypeIs (.ref I) "itertools.combinations" := ⟨_, hI, rfl⟩
  wp_walk using wpAny_typeOf hTI, collect_c (A := A.in1) hh C hst hp
  intro h' as hk hl hG
  show wpAny _ _ (Builtin.Tuple.tupleExact (as.map Value.ref).toArray >>= fun v => ret v) _ _ _
  unfold Builtin.Tuple.tupleExact
  refine wpAny_bind (wpAny_newObj_type ?_ (by show (as.map Value.ref).toArray.size ≤ sizeLine; have := C.few; rw [List.size_toArray, List.length_map, hl, sizeLine_eq]; omega))
  exact wpAny_pure (h h' as hk hl hG)
theorem call_tuple_c {Q : Value → Shared → Prop} {I pool : Addr} {items : Array Value} {cs : List (List Nat)} (hh : A.handled = none) (C : Chain items.size cs) (hst : CSt s.heap I pool cs 0) (hp : s.heap.get? pool = some { cls := .type "tuple", data := .seq items })
    (h : ∀ (h' : Heap) (as : List Addr), (∀ b o, b ≠ I → s.heap.get? b = some o → h'.get? b = some o) → as.length = cs.length → MadeC items cs s.heap h' as → Q (.ref h'.objs.size) { s with heap := h'.push { cls := .type "tuple", data := .seq (as.map Value.ref).toArray } }) :
    wpAny (model prog w) A (call (.type "tuple") [.ref I]) Q E s := by
  refine callType_codes (Q₁ := fun obj s₁ => s₁.TypeIs obj "tuple" ∧ Q obj s₁) F.called_tuple (F.typeCall_tuple_1 _) F.entry_object_init
    (code_tuple_c (A := A.in1) hh C hst hp fun h' as a b c => ⟨⟨_, Heap.get?_push_size _ rfl, rfl⟩, h h' as a b c⟩) fun obj s₁ h₁ => ?_
  exact ⟨h₁.1, F.args_object_init_2 obj _, object_init_meets F.called_tuple.init.lookup F.called_tuple.made (by decide) prog w A.in1 _ s₁ ⟨h₁.1, rfl, h₁.2⟩⟩
end
end Cmb

namespace Cmb
open PySem PySem.Spec PyProof.Rows L2
/-- the tuples tracked where they lie -/
def putV : Hp → List Addr → List (List V) → Hp
  | H, a :: as, xs :: xss => putV (upd H a (.tup xs)) as xss
  | H, _, _ => H
theorem putV_off {b : Addr} : ∀ (as : List Addr) (xss : List (List V)) (H : Hp), b ∉ as → putV H as xss b = H b
  | [], _, _, _ => rfl
  | _ :: _, [], _, _ => rfl
  | a :: as, xs :: xss, H, h => by
    show putV (upd H a (.tup xs)) as xss b = H b
    rw [putV_off as xss _ (fun z => h (List.mem_cons_of_mem _ z)), upd_ne (fun z => h (by rw [z]; exact List.mem_cons_self))]
theorem putV_at : ∀ (as : List Addr) (xss : List (List V)) (H : Hp) (j : Nat) (a : Addr) (xs : List V), as.Nodup → as[j]? = some a → xss[j]? = some xs → putV H as xss a = some (.tup xs)
  | [], _, _, _, _, _, _, h, _ => by simp at h
  | _ :: _, [], _, _, _, _, _, _, h => by simp at h
  | b :: as, ys :: xss, H, 0, a, xs, hn, h1, h2 => by
    have e1 : b = a := by simpa using h1
    have e2 : ys = xs := by simpa using h2
    subst e1 e2
    show putV (upd H b (.tup ys)) as xss b = some (.tup ys)
    rw [putV_off as xss _ (List.nodup_cons.mp hn).1, upd_same]
  | b :: as, ys :: xss, H, j + 1, a, xs, hn, h1, h2 => putV_at as xss _ j a xs (List.nodup_cons.mp hn).2 (by simpa using h1) (by simpa using h2)
theorem ok_there {P : Program} {w : World} {H : Hp} {h : Heap} {a : Addr} {o : HO} (x : ObjOk P w H h a o) : ∃ u, h.get? a = some u := by
  induction o with
  | lst xs => obtain ⟨_, _, _, _, e⟩ := x; exact ⟨_, e⟩
  | tup xs => obtain ⟨_, _, _, ob, e, _⟩ := x; exact ⟨_, e⟩
  | dK kvs => obtain ⟨_, _, _, _, o, _, _, e, _⟩ := x; exact ⟨_, e⟩
  | dT kvs => obtain ⟨_, _, _, _, o, _, _, e, _⟩ := x; exact ⟨_, e⟩
  | set S n => obtain ⟨o, _, _, _, e, _⟩ := x; exact ⟨_, e⟩
  | ins C dx fs => obtain ⟨_, _, _, e, _⟩ := x; exact ⟨_, e⟩
  | own y => obtain ⟨_, e⟩ := x; exact ⟨_, e⟩
  | xd fs => obtain ⟨_, ⟨_, _, _, e, _⟩, _⟩ := x; exact ⟨_, e⟩
  | rng lo hi => obtain ⟨_, _, _, e⟩ := x; exact ⟨_, e⟩
  | frz ob u ih => obtain ⟨e, _⟩ := x; exact ⟨_, e⟩
  | tbl ps => exact ⟨_, (show h.get? a = some _ from x)⟩
  | met f y => exact ⟨_, (show h.get? a = some _ from x)⟩
  | ext φ => obtain ⟨_, e, _⟩ := x; exact e
section
variable {X : Cx} {pins : List (Addr × Obj)} {σ : L2.St} {H : Hp} {s : Shared}
theorem free_of (I : Inv X pins σ H s) {a : Addr} (e : s.heap.get? a = none) : H a = none := by
  cases q : H a with
  | none => rfl
  | some o =>
    obtain ⟨u, hu⟩ := ok_there (I.hok a o q)
    rw [e] at hu
    cases hu
theorem tups_laid {h' : Heap} {as : List Addr} {xss : List (List V)} (I : Inv X pins σ H s) (hk : ∀ b o, s.heap.get? b = some o → h'.get? b = some o) (new : ∀ a ∈ as, s.heap.get? a = none) (nd : as.Nodup)
    (each : ∀ (j : Nat) (a : Addr), as[j]? = some a → ∃ xs its, xss[j]? = some xs ∧ xs.length ≤ sizeLine ∧ Vals xs its ∧ h'.get? a = some { cls := .type "tuple", data := .seq its.toArray }) :
    Inv X pins σ (putV H as xss) { s with heap := h' } := by
  have newH : ∀ t ∈ as, H t = none := fun t ht => free_of I (new t ht)
  have off : ∀ b, b ∉ as → putV H as xss b = H b := fun b h1 => putV_off as xss H h1
  have low : ∀ b o, s.heap.get? b = some o → b ∉ as := fun b o e z => by rw [new b z] at e; cases e
  have kp : ∀ b u, H b = some u → (putV H as xss) b = some u := fun b u e => by
    rw [off b (fun z => by rw [newH b z] at e; cases e)]
    exact e
  refine I.call' (ch := []) rfl ⟨fun b o q _ _ _ => hk b o q, fun b o q _ _ _ => ⟨o.slots, hk b o q⟩, fun b o q n _ => ?_, fun b o q _ => ⟨o, hk b o q⟩, fun b xs q => kp b _ q, fun b o u q => kp b _ q, fun b ps q => ⟨#[], by rw [kp b _ q]; simp⟩⟩ (fun b u q => ?_) I.bare fun b z => by simp at z
  · rw [off b (low b o q)]
    exact n
  · by_cases hb : b ∈ as
    · obtain ⟨j, e1⟩ := List.mem_iff_getElem?.mp hb
      obtain ⟨xs, its, e2, hz, rv, e3⟩ := each j b e1
      rw [putV_at as xss H j b xs nd e1 e2] at q
      cases q
      exact ⟨hz, its, rv, ⟨_, e3, rfl, _, rfl⟩⟩
    · rw [off b hb] at q
      exact (I.hok b u q).stay (fun d v _ y => hk d v y) (fun d y => kp d _ y) fun d xs y => kp d _ y
end
def tTupC (K : PySem.W.Frag) (t : TA) : TE := fun σ H Q => t σ H fun vs H2 => ∃ (l : Addr) (xs : List V) (r : Nat) (cs : List (List Nat)), vs = [.ref l, .int (r : Int)] ∧ SqL K H2 l xs ∧ r ≤ xs.length ∧ xs.length ≤ 1000 ∧ cs[0]? = some (List.range r) ∧ Chain xs.length cs ∧ (∀ ix ∈ cs, ∀ i ∈ ix, i < xs.length) ∧
  ∀ (H' : Hp) (p : Addr) (ts : List Addr), (∀ b o, H2 b = some o → H' b = some o) → H' p = some (.tup (ts.map V.ref)) → ts.length = cs.length → (∀ (j : Nat) (t : Addr) (ix : List Nat), ts[j]? = some t → cs[j]? = some ix → H' t = some (.tup (ix.map fun i => xs.getD i .non))) → Q (.ref p) H'
theorem vals_refs : ∀ as : List Addr, Vals (as.map V.ref) (as.map Value.ref)
  | [] => .nil
  | _ :: as => .cons rfl (vals_refs as)
theorem vals_pick {xs : List V} {its : List Value} (r : Vals xs its) : ∀ ix : List Nat, (∀ i ∈ ix, i < xs.length) → Vals (ix.map fun i => xs.getD i .non) (pickC its.toArray ix)
  | [], _ => .nil
  | i :: ix, h => by
    have hi := h i List.mem_cons_self
    obtain ⟨u, hu, ru⟩ := r.get (List.getElem?_eq_getElem hi)
    refine .cons ?_ (vals_pick r ix fun j hj => h j (List.mem_cons_of_mem _ hj))
    have e1 : xs.getD i .non = xs[i] := by simp [List.getD_eq_getElem?_getD, hi]
    have e2 : its.toArray.getD i .none = u := by simp [Array.getD_eq_getD_getElem?, hu]
    show RelV (xs.getD i .non) (its.toArray.getD i .none)
    rw [e1, e2]
    exact ru
section
variable {X : Cx}
/-- tuple(combinations(a, b)) -/
theorem pe_tupComb {a b : Expr} {t : TA} {p p2 q pos : Pos} (hc : X.calm = true) (hg : Gl X "tuple") (hm : X.mg "tuple" = none) (hg2 : Gl X "combinations") (hm2 : X.mg "combinations" = some (.type "itertools.combinations")) (ha : PA X [a, b] t)
    (he : starEach [a, b] X.env = (false, eval a X.env) :: starEach [b] X.env := by rfl) (hpl : (backTo q (starEach [b] X.env)).any (·.1) = false := by rfl) :
    PE X (.Call (.Name "tuple" p) [.Call (.Name "combinations" p2) [a, b] [] q] [] pos) (tTupC X.K t) := by
  refine ⟨fun pins s σ H Q I h => ?_⟩
  refine Call_ (ld_blt I hg hm boot_tuple ?_)
  refine PyProof.Rows.callWith_type1 (PyProof.Rows.args_cons ?_ rfl) rfl rfl
  refine Call_ (ld_glob I hg2 hm2 ?_)
  refine PyProof.Rows.callWith_type1 (thn (ha.run q pins s σ H _ I h) fun us s1 ⟨vs, H1, I1, r1, q1⟩ => ?_) he hpl
  obtain ⟨l, xs, r, cs, rfl, hq, hr, hz, c0, C, inn, q1⟩ := q1
  cases r1 with
  | cons ra r2 =>
  cases r2 with
  | cons rb r3 =>
  cases r3
  cases ra
  obtain ⟨tk, rfl⟩ := rb
  obtain ⟨its, rv, pl, _⟩ := I1.list hq
  have hlen := rv.length
  have hsz : its.toArray.size = xs.length := by rw [List.size_toArray, hlen]
  refine call_c pl.isList (by omega) (by omega) fun h1 pool k1 hp hpn hn1 => ?_
  refine PyProof.Rows.args_nil ?_
  rw [← hsz] at C
  have hI1 : (h1.push (cObj pool 0 .none (List.range r))).get? h1.objs.size = some (cObj pool 0 .none (List.range r)) := Heap.get?_push_size _ rfl
  refine call_tuple_c (I1.ok.hd hc) C (I := h1.objs.size) (pool := pool) (items := its.toArray) ⟨_, _, c0, hI1⟩ (Heap.get?_push_of_some _ hp) fun h2 as k2 hl hG => ?_
  dsimp only at k2 hG ⊢
  have old : ∀ b o, s1.heap.get? b = some o → h2.get? b = some o := fun b o e => k2 b o (fun z => by rw [z] at e; have := k1 _ _ e; rw [hn1] at this; cases this) (Heap.get?_push_of_some _ (k1 b o e))
  have new : ∀ a ∈ as, s1.heap.get? a = none := fun a ha => by
    cases e : s1.heap.get? a with
    | none => rfl
    | some o =>
      have := hG.new a ha
      rw [Heap.get?_push_of_some _ (k1 a o e)] at this
      cases this
  have I2 := tups_laid (h' := h2) (as := as) (xss := cs.map fun ix => ix.map fun i => xs.getD i .non) I1 old new hG.uni (fun j a e => by
    obtain ⟨ix, e1, e2⟩ := hG.pairs j a e
    have mem := List.mem_of_getElem? e1
    refine ⟨_, _, by rw [List.getElem?_map, e1]; rfl, ?_, vals_pick rv ix (inn ix mem), e2⟩
    rw [List.length_map, sizeLine_eq]
    have := C.short ix mem
    omega)
  have fp := I2.hok.fresh (Nat.le_refl h2.objs.size)
  have lz : (as.map V.ref).length ≤ sizeLine := by
    have := C.few
    rw [List.length_map, hl, sizeLine_eq]
    omega
  have I3 := I2.laid (t' := s1.toks) (a := h2.objs.size) (o := .tup (as.map V.ref)) (h' := h2.push { cls := .type "tuple", data := .seq (as.map Value.ref).toArray }) (fun b o e => Heap.get?_push_of_some _ e) (Nat.le_refl _)
    ⟨lz, as.map Value.ref, vals_refs as, IsTup.new _ _⟩
  have newH : ∀ t ∈ as, H1 t = none := fun t ht => free_of I1 (new t ht)
  refine ⟨.ref h2.objs.size, _, I3, rfl, q1 _ _ as (fun b o e => ?_) upd_same hl fun j t ix e1 e2 => ?_⟩
  · have e' : putV H1 as (cs.map fun ix => ix.map fun i => xs.getD i .non) b = some o := by
      rw [putV_off as _ H1 (fun z => by rw [newH b z] at e; cases e)]
      exact e
    rw [upd_ne (fun z => by rw [z, fp] at e'; cases e')]
    exact e'
  · have e' := putV_at as (cs.map fun ix => ix.map fun i => xs.getD i .non) H1 j t _ hG.uni e1 (by rw [List.getElem?_map, e2]; rfl)
    rw [upd_ne (fun z => by rw [z, fp] at e'; cases e')]
    exact e'
end
end Cmb

/-! M11: dict comprehensions of one clause, nothing left out -/
namespace Sd
open PySem PySem.Spec PyProof.Rows L2
section
variable {J : It} {n : Nat} {G : Hp → Prop} {Y : Nat → Hp → V → Hp → Prop}
theorem dc_map (w : Walk J n G Y) {g : TG} {tk tv : TE} {vs : List Nat} {σ : L2.St} {H1 : Hp} {D : Addr} {Qd : Hp → Prop} (P : Nat → List (Key × V) → Hp → Prop)
    (hy : Yk Y) (hD : H1 D = none) (gG : ∀ H, Go [] H1 H → G H) (p0 : P 0 [] H1) (pm : ∀ i kvs N H H', Go N H H' → P i kvs H → P i kvs H') (pz : ∀ i kvs H, P i kvs H → kvs.length ≤ 100000)
    (turn : ∀ i x H H' kvs (Fin : V → V → Hp → Prop), i < n → Go [] H1 H → P i kvs H → Y i H x H' → Go [] H H' → (∀ k z H5, Go [] H' H5 → P (i + 1) (putK kvs k z) H5 → Fin (kV k) z H5) →
      g x (wipe σ vs) H' fun σ2 H2 => wipe σ2 vs = wipe σ vs ∧ tk σ2 H2 fun y H4 => tv σ2 H4 fun z H5 => Fin y z H5)
    (done : ∀ H kvs, Go [] H1 H → P n kvs H → H D = some (.dK kvs) → Qd H) :
    ∃ W : Nat → Nat → Hp → Prop, (∃ m, W 0 m (upd H1 D (.dK []))) ∧ ∀ i m H, W i m H →
      (J.stop i H ∧ Qd H) ∨ (J.go i H ∧ ∃ Nx : Hp → Prop, (∀ H', Nx H' → ∃ m', m' < m ∧ W (i + 1) m' H') ∧ ∀ x H', J.yld i H x H' → g x (wipe σ vs) H' fun σ2 H2 => wipe σ2 vs = wipe σ vs ∧ tYes σ2 H2 fun b H3 =>
        if b = true then tk σ2 H3 fun y H4 => tv σ2 H4 fun z H5 => ∃ kvs k, y = kV k ∧ H5 D = some (.dK kvs) ∧ kvs.length < sizeLine ∧ Nx (upd H5 D (.dK (putK kvs k z))) else Nx H3) := by
  refine ⟨fun i m H => m = n - i ∧ i ≤ n ∧ ∃ kvs, Go [] H1 H ∧ P i kvs H ∧ H D = some (.dK kvs), ⟨n, by simp, Nat.zero_le _, [], (Go.refl [] H1).mut hD, pm _ _ [] _ _ ((Go.refl [] H1).mut hD) p0, upd_same⟩, ?_⟩
  rintro i m H ⟨rfl, hi, kvs, gH, p, d⟩
  have q := gG H gH
  by_cases hlt : i < n
  · refine .inr ⟨w.goes i H hlt q, fun H' => ∃ kvs, Go [] H1 H' ∧ P (i + 1) kvs H' ∧ H' D = some (.dK kvs), fun H' p' => ⟨n - (i + 1), by omega, rfl, hlt, p'⟩, fun x H' y => ?_⟩
    have yy := w.yields i H x H' hlt q y
    have gy := hy i H x H' yy
    refine turn i x H H' kvs _ hlt gH p yy gy ?_
    intro k z H5 g5 p5
    have d5 : H5 D = some (.dK kvs) := g5.old D _ (fun z => nomatch z) (gy.old D _ (fun z => nomatch z) d)
    have gD : Go [D] H5 (upd H5 D (.dK (putK kvs k z))) := Go.put d5 rfl (List.Mem.head _)
    exact ⟨kvs, k, rfl, d5, Nat.lt_of_le_of_lt (pz _ _ _ p) (by decide), putK kvs k z, ((gH.trans gy).trans g5).mut hD, pm _ _ _ _ _ gD p5, upd_same⟩
  · have e : i = n := by omega
    subst e
    exact .inl ⟨w.stops H q, done H kvs gH p d⟩
end
end Sd

/-! M12: methods by their class -/
namespace Sd
open PySem PySem.Spec PyProof.Rows L2
/-- a method as the top left it -/
structure MtAt (c : Wd) (C : Addr) (m qual : Str) (st : Stmt) (ps : List Str) : Prop where
  ex : ∃ (f : Addr) (fd : FuncData), Meth c.K C m f ∧ Fun c.K m qual st f fd ∧ Binds c.K fd ps []
  cls : Cls c.K C
/-- a method that keeps its promise -/
def MtO (c : Wd) (C : Addr) (m : Str) (k : Nat) (ps : List Str) (sp : Sp) : Prop :=
  ∃ (f : Addr) (fd : FuncData), Cls c.K C ∧ Meth c.K C m f ∧ Binds c.K fd ps [] ∧ FnOk c.P c.w c.K c.mg c.base (L2.CX c.P c.w) k f fd ps sp
theorem mt_of {c : Wd} {m qual : Str} {C : Addr} {st : Stmt} {N ps : List Str} {k : Nat} {sp : Sp} (F : MtAt c C m qual st ps) (S : FnScope N ps (defScope st))
    (len : ∀ vs H Q E, sp vs H Q E → vs.length = ps.length)
    (h : ∀ (f : Addr) (cdv : Value) (A : Around) (out : List Env) (s : Shared) (H : Hp) (vs : List V) (Q : VK) (E : XK), Room k (A.deeper (envOfC qual (defScope st) s.heap.objs.size f cdv)) → sp vs H Q E →
      ∃ t, PSs (cxN c N qual st f cdv A out s H E).nox (defBody st) t ∧ t { nx := fun _ H' => Q .non H', rt := Q } (L2.start N vs) H) : MtO c C m (k + 1) ps sp := by
  obtain ⟨f, fd, h1, h3, h4⟩ := F.ex
  refine ⟨f, fd, F.cls, h1, h4, h3.okX S len fun cdv A out s H vs Q E hr q => ?_⟩
  obtain ⟨t, a, b⟩ := h f cdv A out s H vs Q E hr q
  exact ⟨t, a.nox, b⟩
section
variable {X : Cx} {c : Wd} {C : Addr} {m : Str} {k : Nat} {ps : List Str} {sp : Sp} {pos apos : Pos} {o e : Expr} {es : List Expr} {ta : TE} {t : TA}
theorem pe_mtO {pl : Sem Bool} (D : MtO c C m k ps sp) (hr : Room k X.A) (he : PE X o ta) (ha : PA X (e :: es) t) (hc : Of X c := by exact ⟨rfl, rfl, rfl, rfl, rfl⟩)
    (hst : starEach (e :: es) X.env = (false, eval e X.env) :: starEach es X.env := by rfl) (hpl : (backTo pos (starEach es X.env)).any (·.1) = false := by rfl)
    (ht : eval (.Call (.Attribute o m apos) (e :: es) [] pos) X.env = (do
      let ov ← eval o X.env
      standAt apos.atName
      let (f, first) ← holding [ov] (getMethod ov m pl)
      callWith pos f first (backTo pos (starEach (e :: es) X.env)) (backToKw pos (keywordEach [] X.env))) := by rfl) :
    PE X (.Call (.Attribute o m apos) (e :: es) [] pos) (tMeth C m sp [] E0 ta t) := by
  obtain ⟨f, fd, h1, h2, h3, h4⟩ := D
  obtain ⟨c1, c2, c3, c4, c5⟩ := hc
  obtain ⟨P, w, K, mg, base⟩ := c
  dsimp only at c1 c2 c3 c4 c5
  subst c1 c2 c3 c4 c5
  exact pe_meth (pl := pl) he h1 h2 h4 hr h3 .nil passL ha hst hpl ht
end
end Sd

/-! M13: properties by their class -/
namespace Sd
open PySem PySem.Spec PyProof.Rows L2
/-- a property as the top left it -/
structure PrAt (c : Wd) (C : Addr) (m qual : Str) (st : Stmt) (ps : List Str) : Prop where
  ex : ∃ (p f : Addr) (fd : FuncData), PropOf c.K C m p f ∧ Fun c.K m qual st f fd ∧ Binds c.K fd ps []
  cls : Cls c.K C
/-- a property that keeps its promise -/
def PrO (c : Wd) (C : Addr) (m : Str) (k : Nat) (ps : List Str) (sp : Sp) : Prop :=
  ∃ (p f : Addr) (fd : FuncData), Cls c.K C ∧ PropOf c.K C m p f ∧ Binds c.K fd ps [] ∧ FnOk c.P c.w c.K c.mg c.base (L2.CX c.P c.w) k f fd ps sp
theorem pr_of {c : Wd} {m qual : Str} {C : Addr} {st : Stmt} {N ps : List Str} {k : Nat} {sp : Sp} (F : PrAt c C m qual st ps) (S : FnScope N ps (defScope st))
    (len : ∀ vs H Q E, sp vs H Q E → vs.length = ps.length)
    (h : ∀ (f : Addr) (cdv : Value) (A : Around) (out : List Env) (s : Shared) (H : Hp) (vs : List V) (Q : VK) (E : XK), Room k (A.deeper (envOfC qual (defScope st) s.heap.objs.size f cdv)) → sp vs H Q E →
      ∃ t, PSs (cxN c N qual st f cdv A out s H E).nox (defBody st) t ∧ t { nx := fun _ H' => Q .non H', rt := Q } (L2.start N vs) H) : PrO c C m (k + 1) ps sp := by
  obtain ⟨p, f, fd, h1, h3, h4⟩ := F.ex
  refine ⟨p, f, fd, F.cls, h1, h4, h3.okX S len fun cdv A out s H vs Q E hr q => ?_⟩
  obtain ⟨t, a, b⟩ := h f cdv A out s H vs Q E hr q
  exact ⟨t, a.nox, b⟩
section
variable {X : Cx} {c : Wd} {C : Addr} {m : Str} {k : Nat} {ps : List Str} {sp : Sp} {pos : Pos} {e : Expr} {ta : TE}
theorem pe_prO (D : PrO c C m k ps sp) (hr : Room (k + 1) X.A) (he : PE X e ta) (hc : Of X c := by exact ⟨rfl, rfl, rfl, rfl, rfl⟩) (hab : attributeBase e m X.env (eval e X.env) = eval e X.env := by rfl) :
    PE X (.Attribute e m pos) (tProp C sp [] E0 ta) := by
  obtain ⟨p, f, fd, h1, h2, h3, h4⟩ := D
  obtain ⟨c1, c2, c3, c4, c5⟩ := hc
  obtain ⟨P, w, K, mg, base⟩ := c
  dsimp only at c1 c2 c3 c4 c5
  subst c1 c2 c3 c4 c5
  exact pe_prop he h1 h2 h4 hr h3 .nil passL hab
end
end Sd

/-! M14: a class made by its name -/
namespace Sd
open PySem PySem.Spec PyProof.Rows L2
/-- a class that keeps its promise when it is made -/
def MkO (c : Wd) (x : Str) (C : Addr) (k : Nat) (ps : List Str) (sp : Sp) : Prop :=
  ∃ (f : Addr) (fd : FuncData), Mk c.K C f ∧ c.mg x = some (.ref C) ∧ Binds c.K fd ps [] ∧ FnOk c.P c.w c.K c.mg c.base (L2.CX c.P c.w) k f fd ps sp
section
variable {X : Cx} {c : Wd} {C : Addr} {x : Str} {k : Nat} {ps : List Str} {sp : Sp} {p pos : Pos} {e : Expr} {es : List Expr} {t : TA}
theorem pe_mkO (D : MkO c x C k ps sp) (hr : Room (k + 1) X.A) (hg : Gl X x) (ha : PA X (e :: es) t) (hc : Of X c := by exact ⟨rfl, rfl, rfl, rfl, rfl⟩)
    (hdb : (x == ("__debug__" : Str)) = false := by decide) (he : starEach (e :: es) X.env = (false, eval e X.env) :: starEach es X.env := by rfl) (hpl : (backTo pos (starEach es X.env)).any (·.1) = false := by rfl) :
    PE X (.Call (.Name x p) (e :: es) [] pos) (tMake C sp [] E0 t) := by
  obtain ⟨f, fd, h1, h2, h3, h4⟩ := D
  obtain ⟨c1, c2, c3, c4, c5⟩ := hc
  obtain ⟨P, w, K, mg, base⟩ := c
  dsimp only at c1 c2 c3 c4 c5
  subst c1 c2 c3 c4 c5
  exact pe_make h1 h4 hr hg h2 h3 .nil passL ha hdb he hpl
end
end Sd

namespace Sd
open PySem PySem.Spec PyProof.Rows L2 RZ RT
/-- a text, each sign in a new pair -/
def Itse (z : Str) : It := ⟨fun i _ => i < z.cps.size, fun i H v H' => ∃ T c, v = .ref T ∧ H T = none ∧ H' = upd H T (.tup [.int (i : Nat), .str ⟨#[c]⟩]) ∧ z.cps[i]? = some c, fun i _ => z.cps.size ≤ i⟩
theorem draws_str {P : Program} {w : World} {A : Around} (hh : A.handled = none) (it : Addr) (x : Str) (t : Tok) (ty : String) (hty : ty = "str_ascii_iterator" ∨ ty = "str_iterator") :
    Draws P w A it [it] x.cps.size (fun i v => ∃ c u, x.cps[i]? = some c ∧ v = .str ⟨#[c]⟩ u) (fun i h => h.IsStrIter it ty x t i) := by
  rcases hty with e | e
  · rw [e]; exact Draws.strAscii hh it x t
  · rw [e]; exact Draws.strWide hh it x t
theorem turn_enumS {P : Program} {w : World} {K : PySem.W.Frag} {elts : List Expr} {kk : Nat} {tpos : Pos} (e it : Addr) (x : Str) (t : Tok) (ty : String) (hty : ty = "str_ascii_iterator" ∨ ty = "str_iterator") :
    Turn P w K (.Tuple elts kk tpos) (Itse x) [e, it] e (fun i h => (∃ old, IsEnum h e it ((i : Nat) : Int) old) ∧ h.IsStrIter it ty x t i ∧ e ≠ it ∧ i ≤ x.cps.size) where
  mem := by simp
  obj := fun i h st b hb => by
    obtain ⟨⟨old, he⟩, ⟨o, ho, hc, hd⟩, _, _⟩ := st
    have e' : b = e ∨ b = it := by simpa using hb
    rcases e' with z | z
    · rw [z]; exact ⟨_, he, fun v q => nomatch q⟩
    · rw [z]; exact ⟨o, ho, fun v q => by rw [hd] at q; cases q⟩
  keep := fun i h h' st k => let ⟨⟨old, he⟩, ⟨o, ho, r⟩, hne⟩ := st; ⟨⟨old, k e (by simp) _ he⟩, ⟨o, k it (by simp) o ho, r⟩, hne⟩
  item := by
    intro X hP hw hK hc i pins s σ H E I hf st hg
    subst hP hw hK
    obtain ⟨⟨old, he⟩, hit, hne, hle⟩ := st
    have hel : e < s.heap.objs.size := Heap.lt_size he
    have hil : it < s.heap.objs.size := by obtain ⟨_, q, _⟩ := hit; exact Heap.lt_size q
    have W := draws_str (P := X.prog) (w := X.w) (A := X.A.in1) (I.ok.hd hc) it x t ty hty
    refine wpAny_pyNext_enum_itemD W he hit hg hne (by simpa using hne) fun u h' tk hu ho hit' hT hsz hk => ?_
    obtain ⟨c, u2, hcx, rfl⟩ := hu
    refine ⟨_, rfl, wpAny_letOwnedTupleGo_enum (s := { s with heap := h', toks := tk + 1 }) ho fun h'' he' sb => ?_⟩
    have hT2 : h''.get? s.heap.objs.size = some { cls := .type "tuple", data := .seq #[.int i tk, .str ⟨#[c]⟩ u2] } := (sb.2 _ (Nat.ne_of_gt hel)).trans hT
    have new : ObjOk X.prog X.w (upd H s.heap.objs.size (.tup [.int (i : Nat), .str ⟨#[c]⟩])) h'' s.heap.objs.size (.tup [.int (i : Nat), .str ⟨#[c]⟩]) :=
      ⟨by show 2 ≤ sizeLine; decide, [.int i tk, .str ⟨#[c]⟩ u2], .cons ⟨_, rfl⟩ (.cons ⟨_, rfl⟩ .nil), ⟨_, hT2, rfl, _, rfl⟩⟩
    have I1 : Inv X pins σ (upd H s.heap.objs.size (.tup [.int (i : Nat), .str ⟨#[c]⟩])) { s with heap := h'', toks := tk + 1 } :=
      I.turnedNew (ch := [e, it]) (fun b ob hb q => (sb.2 b (fun z => hb (by simp [z]))).trans (hk b ob (fun z => hb (by simp [z])) (fun z => hb (by simp [z])) q)) hf (Nat.le_refl _) new
    refine ⟨.ref s.heap.objs.size, _, I1, rfl, ⟨_, c, rfl, I.hok.fresh (Nat.le_refl _), rfl, hcx⟩, ⟨⟨.str ⟨#[c]⟩ u2, ?_⟩, ?_, hne, hg⟩, fun b hb => ?_⟩
    · have e1 : ((i + 1 : Nat) : Int) = (i : Int) + 1 := by omega
      rw [e1]; exact he'
    · obtain ⟨o, ho, r⟩ := hit'
      exact ⟨o, (sb.2 it (Ne.symm hne)).trans ho, r⟩
    · have hb' : b < s.heap.objs.size := by
        have e' : b = e ∨ b = it := by simpa using hb
        rcases e' with z | z
        · rw [z]; exact hel
        · rw [z]; exact hil
      rw [upd_ne (Nat.ne_of_lt hb')]
      exact (hf b hb).1
  done := by
    intro X hP hw hK hc i pins s σ H E I hf st hg
    subst hP hw hK
    obtain ⟨⟨old, he⟩, hit, hne, hle⟩ := st
    obtain ⟨f0, f1, f2, f3, f4, f5⟩ := hf it (by simp)
    have W := draws_str (P := X.prog) (w := X.w) (A := X.A.in1) (I.ok.hd hc) it x t ty hty
    have hit2 : s.heap.IsStrIter it ty x t x.cps.size := by
      have hx : i = x.cps.size := Nat.le_antisymm hle hg
      rw [← hx]; exact hit
    exact wpAny_pyNext_enum_endD W he hit2 fun h' eb => ⟨rfl, I.turned (t' := s.toks) (fun b o hb q => eb b o hb q) f0 f1 f3 f4 f5⟩
  self := fun A i s Q E st h => let ⟨⟨_, he⟩, _⟩ := st; wpAny_pyIter_enum he h
def iEnumS (ta : TA) : TI := fun σ H R => ta σ H fun vs H1 => ∃ x, vs = [.str x] ∧ R (Itse x) H1
theorem pi_enumS {X : Cx} {e : Expr} {ta : TA} {p pos tpos : Pos} {elts : List Expr} {kk : Nat} (hg : Gl X "enumerate") (hm : X.mg "enumerate" = none) (ha : PA X [e] ta) (hs : starEach [e] X.env = [(false, eval e X.env)] := by rfl) :
    PI X (.Tuple elts kk tpos) (.Call (.Name "enumerate" p) [e] [] pos) (iEnumS ta) := by
  refine ⟨fun pins s σ H R I h => ?_⟩
  refine Call_ (ld_blt I hg hm boot_enumerate (PyProof.Rows.callWith_type1 (thn (ha.run pos pins s σ H _ I h) fun us s1 ⟨vs, H1, I1, r1, q1⟩ => ?_) hs rfl))
  obtain ⟨x, ex, q⟩ := q1
  subst ex
  cases r1 with
  | cons r rr =>
    cases rr
    obtain ⟨t, rfl⟩ := r
    refine call_enumerate_str fun h' he hit hsz hk => wpAny_pyIter_enum he ?_
    have I2 : Inv X pins σ H1 { s1 with heap := h' } := I1.kept (t' := s1.toks) hk
    have hty : strIterType x = "str_ascii_iterator" ∨ strIterType x = "str_iterator" := by
      unfold strIterType
      split
      · exact .inl rfl
      · exact .inr rfl
    refine ⟨s1.heap.objs.size + 1, [s1.heap.objs.size + 1, s1.heap.objs.size], _, _, H1, rfl, I2, turn_enumS (s1.heap.objs.size + 1) s1.heap.objs.size x t _ hty, ⟨⟨.none, he⟩, hit, Nat.succ_ne_self _, Nat.zero_le _⟩, fun b hb => ?_, q⟩
    have e' : b = s1.heap.objs.size + 1 ∨ b = s1.heap.objs.size := by simpa using hb
    have hle : s1.heap.objs.size ≤ b := by
      rcases e' with z | z
      · rw [z]; exact Nat.le_add_right _ _
      · rw [z]; exact Nat.le_refl _
    exact I1.fpOk hle (I1.hok.fresh hle)
def iEnumU (K : PySem.W.Frag) (ta : TA) : TI := fun σ H R => iEnum K ta σ H R ∨ iEnumS ta σ H R
theorem pi_enumU {X : Cx} {K : PySem.W.Frag} {e : Expr} {ta : TA} {p pos tpos : Pos} {elts : List Expr} {kk : Nat} (hg : Gl X "enumerate") (hm : X.mg "enumerate" = none) (ha : PA X [e] ta) (hK : X.K = K := by rfl) (hs : starEach [e] X.env = [(false, eval e X.env)] := by rfl) :
    PI X (.Tuple elts kk tpos) (.Call (.Name "enumerate" p) [e] [] pos) (iEnumU K ta) := by
  subst hK
  exact PI.or (pi_enum hg hm ha hs) (pi_enumS hg hm ha hs)
theorem walk_enumS {z : Str} : Walk (Itse z) z.cps.size (fun _ => True) (YPair (fun i => some (.int (i : Nat))) (fun i => (z.cps[i]?).map fun c => .str ⟨#[c]⟩)) := by
  refine ⟨fun _ _ hi _ => hi, fun _ _ => Nat.le_refl _, fun i H v H' _ _ y => ?_⟩
  obtain ⟨T, c, h1, h2, h3, h4⟩ := y
  exact ⟨T, .int (i : Nat), .str ⟨#[c]⟩, h1, h2, h3, rfl, by simp [h4]⟩
end Sd
namespace Sd
open PySem PySem.Spec PyProof.Rows L2
section
variable {X : Cx}
def rInT (K : PySem.W.Frag) : R2 := fun x y H Q => ∃ d ds, Dp K H x d ∧ Dp K H y (.tuple ds) ∧ SeqAt.shaped d = true ∧ SeqAt.shaped (.tuple ds) = true ∧ Q (.bl (ds.any fun z => PyData.eqv z d)) H
theorem op_inT (hu : X.A.units + 65 < cLine) : OpR X (compareOp .In) (rInT X.K) := by
  intro pins s σ H x y v u Q I rx ry h
  obtain ⟨d, ds, hd, he, sd, se, q⟩ := h
  obtain ⟨as, r1⟩ := Dp.reads I d x v hd rx
  obtain ⟨bs, r2⟩ := Dp.reads I (.tuple ds) y u he ry
  exact SeqAt.in_tuple_reads r2 r1 (SeqAt.canLay_of_shaped se) (SeqAt.canLay_of_shaped sd) (room_in_shaped sd hu) ⟨.bl _, H, I, rfl, q⟩
def rInQ (K : PySem.W.Frag) : R2 := fun x y H Q => rInU K x y H Q ∨ rInT K x y H Q
theorem op_inQ {K : PySem.W.Frag} (hu : X.A.units + 65 < cLine) (hK : X.K = K := by rfl) : OpR X (compareOp .In) (rInQ K) := by subst hK; exact OpR.or (op_inU hu) (op_inT hu)
end
end Sd

/-! M16: zip of a list and a tuple -/
namespace Sd
open PySem PySem.Spec PyProof.Rows L2 RZ RT
/-- a list's items beside a tuple's, each two in a new pair -/
def Itm (K : PySem.W.Frag) (a b : Addr) (xs ys : List V) : It where
  go := fun i H => SqL K H a xs ∧ SqT K H b ys ∧ i < xs.length ∧ i < ys.length
  yld := fun i H v H' => ∃ T x y, v = .ref T ∧ H T = none ∧ H' = upd H T (.tup [x, y]) ∧ xs[i]? = some x ∧ ys[i]? = some y
  stop := fun i H => SqL K H a xs ∧ SqT K H b ys ∧ (xs.length ≤ i ∨ ys.length ≤ i)
/-- five cells that lie apart, of one another and of what is walked -/
theorem sep_of {z TI TO i1 i2 a b : Addr} (D : ZipApart z TI TO i1 i2 a b) : ZipSep2 z TI TO i1 i2 [i1, a] [i2, b] where
  TIz := D.TIz
  TOz := D.TOz
  TITO := D.TITO
  TIi1 := D.TIi1
  TIi2 := D.TIi2
  mem1 := List.mem_cons_self
  mem2 := List.mem_cons_self
  zf1 := by simp [D.i1z.symm, D.l1z.symm]
  zf2 := by simp [D.i2z.symm, D.l2z.symm]
  Tf1 := by simp [D.TOi1, D.l1TO.symm]
  Tf2 := by simp [D.TOi2, D.l2TO.symm]
  sep1_2 := by simp [D.i12, D.l2i1.symm]
  sep2_1 := by simp [D.i12.symm, D.l1i2.symm]
structure ZmSt (h : Heap) (z TI TO i1 i2 a b : Addr) (n k i : Nat) : Prop where
  zp : IsZip h z TI TO .none
  ti : IsPair h TI (.ref i1) (.ref i2)
  to : ∃ p q, IsPair h TO p q
  li : h.IsListIter i1 a i
  tu : h.IsTupleIter i2 b i
  n1 : i ≤ n
  n2 : i ≤ k
theorem turn_zipM {P : Program} {w : World} {K : PySem.W.Frag} {elts : List Expr} {kk : Nat} {tpos : Pos} {a b z TI TO i1 i2 : Addr} {xs ys : List V} (D : ZipApart z TI TO i1 i2 a b) :
    Turn P w K (.Tuple elts kk tpos) (Itm K a b xs ys) [z, TI, TO, i1, i2] z (fun i h => ZmSt h z TI TO i1 i2 a b xs.length ys.length i) where
  mem := List.mem_cons_self
  obj := fun i h st c hc => by
    obtain ⟨u, v, h3⟩ := st.to
    obtain ⟨o1, e1, _, d1⟩ := st.li
    obtain ⟨o2, e2, _, d2⟩ := st.tu
    simp only [List.mem_cons, List.not_mem_nil, or_false] at hc
    rcases hc with rfl | rfl | rfl | rfl | rfl
    · exact ⟨_, st.zp, fun _ q => nomatch q⟩
    · exact ⟨_, st.ti, fun _ q => nomatch q⟩
    · exact ⟨_, h3, fun _ q => nomatch q⟩
    · exact ⟨o1, e1, fun _ q => by rw [d1] at q; cases q⟩
    · exact ⟨o2, e2, fun _ q => by rw [d2] at q; cases q⟩
  keep := fun i h h' st k => by
    obtain ⟨u, v, h3⟩ := st.to
    refine ⟨k z (by simp) _ st.zp, k TI (by simp) _ st.ti, ⟨u, v, k TO (by simp) _ h3⟩, st.li.at fun o q => k i1 (by simp) o q, ?_, st.n1, st.n2⟩
    obtain ⟨o2, e2, r2⟩ := st.tu
    exact ⟨o2, k i2 (by simp) _ e2, r2⟩
  item := by
    intro X hP hw hK hc i pins s σ H E I free st hg
    subst hP hw hK
    obtain ⟨qa, qb, hx, hy⟩ := hg
    obtain ⟨as, ra, pa, _⟩ := I.list qa
    obtain ⟨bs, rb, pb, _⟩ := I.tuple qb
    obtain ⟨va, ea, r1⟩ := ra.get (i := i) (List.getElem?_eq_getElem hx)
    obtain ⟨vb, eb, r2⟩ := rb.get (i := i) (List.getElem?_eq_getElem hy)
    obtain ⟨u, v, h3⟩ := st.to
    have hd := I.ok.hd hc
    have D1 := Draws.list (prog := X.prog) (w := X.w) (A := X.A.in1) hd i1 a D.l1i1 as.toArray
    have D2 := Draws.tuple (prog := X.prog) (w := X.w) (A := X.A.in1) hd i2 b D.l2i2 bs.toArray
    have la := ra.length
    have lb := rb.length
    have below : ∀ c, c ∈ [z, TI, TO, i1, i2] → c < s.heap.objs.size := fun c hm => by
      obtain ⟨o1, e1, _⟩ := st.li
      obtain ⟨o2, e2, _⟩ := st.tu
      simp only [List.mem_cons, List.not_mem_nil, or_false] at hm
      rcases hm with rfl | rfl | rfl | rfl | rfl
      · exact Heap.lt_size st.zp
      · exact Heap.lt_size st.ti
      · exact Heap.lt_size h3
      · exact Heap.lt_size e1
      · exact Heap.lt_size e2
    refine wpAny_pyNext_zipD2_item (sep_of D) D1 D2 st.zp st.ti h3 ⟨st.li, pa.isList⟩ ⟨st.tu, pb⟩ (by rw [List.size_toArray]; omega) (by rw [List.size_toArray]; omega) fun w1 w2 h' tk y1 y2 z' TO' s1' s2' hT hsz hk => ?_
    have ew1 : w1 = va := by
      have : as[i]? = some w1 := by simpa using y1
      rw [ea] at this
      exact (Option.some.inj this).symm
    have ew2 : w2 = vb := by
      have : bs[i]? = some w2 := by simpa using y2
      rw [eb] at this
      exact (Option.some.inj this).symm
    subst ew1 ew2
    refine ⟨_, rfl, wpAny_letOwnedTupleGo_zip (s := { s with heap := h', toks := tk }) z' fun h'' z'' sb => ?_⟩
    have zl := below z (by simp)
    have hT2 : IsPair h'' s.heap.objs.size w1 w2 := (sb.2 _ (Nat.ne_of_gt zl)).trans hT
    have new : ObjOk X.prog X.w (upd H s.heap.objs.size (.tup [xs[i], ys[i]])) h'' s.heap.objs.size (.tup [xs[i], ys[i]]) := ⟨by show 2 ≤ sizeLine; decide, [w1, w2], .cons r1 (.cons r2 .nil), ⟨_, hT2, rfl, _, rfl⟩⟩
    have I1 : Inv X pins σ (upd H s.heap.objs.size (.tup [xs[i], ys[i]])) { s with heap := h'', toks := tk } := I.turnedNew (ch := [z, TI, TO, i1, i2]) (fun c o hb q => by
      simp only [List.mem_cons, List.not_mem_nil, or_false, not_or] at hb
      exact (sb.2 c hb.1).trans (hk c o hb.1 hb.2.2.1 hb.2.2.2.1 hb.2.2.2.2 q)) free (Nat.le_refl _) new
    refine ⟨.ref s.heap.objs.size, _, I1, rfl, ⟨_, _, _, rfl, I.hok.fresh (Nat.le_refl _), rfl, List.getElem?_eq_getElem hx, List.getElem?_eq_getElem hy⟩, ⟨z'', ?_, ⟨w1, w2, ?_⟩, ?_, ?_, hx, hy⟩, fun c hm => ?_⟩
    · exact (sb.2 _ D.TIz).trans (hk _ _ D.TIz D.TITO D.TIi1 D.TIi2 st.ti)
    · exact (sb.2 _ D.TOz).trans TO'
    · exact s1'.1.at fun o q => (sb.2 _ D.i1z).trans q
    · obtain ⟨o2, e2, rr2⟩ := s2'.1
      exact ⟨o2, (sb.2 _ D.i2z).trans e2, rr2⟩
    · rw [upd_ne (Nat.ne_of_lt (below c hm))]
      exact (free c hm).1
  done := by
    intro X hP hw hK hc i pins s σ H E I free st hg
    subst hP hw hK
    obtain ⟨qa, qb, hend⟩ := hg
    obtain ⟨as, ra, pa, _⟩ := I.list qa
    obtain ⟨bs, rb, pb, _⟩ := I.tuple qb
    obtain ⟨u, v, h3⟩ := st.to
    have hd := I.ok.hd hc
    have D1 := Draws.list (prog := X.prog) (w := X.w) (A := X.A.in1) hd i1 a D.l1i1 as.toArray
    have D2 := Draws.tuple (prog := X.prog) (w := X.w) (A := X.A.in1) hd i2 b D.l2i2 bs.toArray
    have la := ra.length
    have lb := rb.length
    have b1 := st.n1
    have b2 := st.n2
    refine wpAny_pyNext_zipD2_end (sep_of D) D1 D2 st.zp st.ti h3 ⟨st.li, pa.isList⟩ ⟨st.tu, pb⟩ (by rw [List.size_toArray]; omega) (by rw [List.size_toArray]; omega) (by rw [List.size_toArray, List.size_toArray]; omega) fun h' tk hk => ?_
    refine ⟨rfl, I.turnedL (ch := [z, TI, TO, i1, i2]) (fun c o hb q => ?_) free⟩
    simp only [List.mem_cons, List.not_mem_nil, or_false, not_or] at hb
    exact hk c o hb.1 hb.2.2.1 hb.2.2.2.1 hb.2.2.2.2 q
  self := fun A i s Q E st h => wpAny_pyIter_zip st.zp h
abbrev zm1 (h : Heap) (a : Addr) : Heap := h.push ⟨.type "list_iterator", none, .fields #[.ref a, .int 0 0], #[]⟩
abbrev zm2 (h : Heap) (a b : Addr) : Heap := (zm1 h a).push ⟨.type "tuple_iterator", none, .fields #[.ref b, .int 0 0], #[]⟩
abbrev zm3 (h : Heap) (a b : Addr) : Heap := (zm2 h a b).push ⟨.type "tuple", none, .seq #[.ref h.objs.size, .ref (zm1 h a).objs.size], #[]⟩
abbrev zm4 (h : Heap) (a b : Addr) : Heap := (zm3 h a b).push ⟨.type "tuple", none, .seq #[.none, .none], #[]⟩
abbrev zm5 (h : Heap) (a b : Addr) : Heap := (zm4 h a b).push ⟨.type "zip", none, .fields #[.none, .bool false, .bool false, .ref (zm2 h a b).objs.size, .ref (zm3 h a b).objs.size], #[]⟩
theorem made_zipM (a b : Addr) (us vs : Array Value) :
    Meets (Builtin.«zip.__new__» ⟨[.type "zip", .ref a, .ref b], []⟩) (fun _ R s => s.heap.IsList a us ∧ s.heap.IsTuple b vs ∧ R (.ok (.ret (.ref (zm4 s.heap a b).objs.size))) { s with heap := zm5 s.heap a b }) := by
  refine .of_wp fun prog w A R s h => ?_
  obtain ⟨hp, g, d, tk, os⟩ := s
  obtain ⟨ha, hb, h⟩ := h
  have hsub := sub_zip
  have k1 : Heap.IsList (Shared.heap ⟨hp, g, d, tk, os⟩) a us := ha
  have k2 : Heap.IsTuple (Shared.heap ⟨hp.push ⟨.type "list_iterator", none, .fields #[.ref a, .int 0 0], #[]⟩, g, d, tk, os⟩) b vs := Heap.IsTuple.push hb _
  wp_walk using wpAny_pyIter_list k1, wpAny_pyIter_tuple k2
  exact ⟨_, rfl, h⟩
section
variable {prog : Program} {w : World} {A : Around} {E : Value → Shared → Prop} {s : Shared}
theorem call_zipM {a b : Addr} {us vs : Array Value} {Q : Value → Shared → Prop} (ha : s.heap.IsList a us) (hb : s.heap.IsTuple b vs)
    (k : ∀ h', IsZip h' (s.heap.objs.size + 4) (s.heap.objs.size + 2) (s.heap.objs.size + 3) .none → IsPair h' (s.heap.objs.size + 2) (.ref s.heap.objs.size) (.ref (s.heap.objs.size + 1)) → IsPair h' (s.heap.objs.size + 3) .none .none →
      h'.IsListIter s.heap.objs.size a 0 → h'.IsTupleIter (s.heap.objs.size + 1) b 0 → (∀ c o, s.heap.get? c = some o → h'.get? c = some o) → Q (.ref (s.heap.objs.size + 4)) { s with heap := h' }) :
    wpAny (model prog w) A (call (.type "zip") [.ref a, .ref b]) Q E s := by
  refine callType_new F.called_zip (by decide) (F.typeCall_zip_2 _ _) (F.newCall_zip_2 _ _) (fun obj => F.args_object_init_3 obj _ _) F.entry_zip_new (made_zipM a b us vs) ⟨ha, hb, ?_⟩
  have e1 : (zm1 s.heap a).objs.size = s.heap.objs.size + 1 := Heap.size_push ..
  have e2 : (zm2 s.heap a b).objs.size = s.heap.objs.size + 2 := by rw [Heap.size_push, e1]
  have e3 : (zm3 s.heap a b).objs.size = s.heap.objs.size + 3 := by rw [Heap.size_push, e2]
  have e4 : (zm4 s.heap a b).objs.size = s.heap.objs.size + 4 := by rw [Heap.size_push, e3]
  have up : ∀ c o, (zm4 s.heap a b).get? c = some o → (zm5 s.heap a b).get? c = some o := fun c o x => Heap.get?_push_of_some _ x
  have up4 : ∀ c o, (zm3 s.heap a b).get? c = some o → (zm4 s.heap a b).get? c = some o := fun c o x => Heap.get?_push_of_some _ x
  have up3 : ∀ c o, (zm2 s.heap a b).get? c = some o → (zm3 s.heap a b).get? c = some o := fun c o x => Heap.get?_push_of_some _ x
  have up2 : ∀ c o, (zm1 s.heap a).get? c = some o → (zm2 s.heap a b).get? c = some o := fun c o x => Heap.get?_push_of_some _ x
  have f5 : (zm5 s.heap a b).get? (zm4 s.heap a b).objs.size = some _ := Heap.get?_push_size _ rfl
  have f4 : (zm5 s.heap a b).get? (zm3 s.heap a b).objs.size = some _ := up _ _ (Heap.get?_push_size _ rfl)
  have f3 : (zm5 s.heap a b).get? (zm2 s.heap a b).objs.size = some _ := up _ _ (up4 _ _ (Heap.get?_push_size _ rfl))
  have f2 : (zm5 s.heap a b).get? (zm1 s.heap a).objs.size = some _ := up _ _ (up4 _ _ (up3 _ _ (Heap.get?_push_size _ rfl)))
  have f1 : (zm5 s.heap a b).get? s.heap.objs.size = some _ := up _ _ (up4 _ _ (up3 _ _ (up2 _ _ (Heap.get?_push_size _ rfl))))
  show _ ∧ _
  rw [e2, e3, e4] at f5
  rw [e1, e2] at f3
  rw [e3] at f4
  rw [e1] at f2
  rw [e4]
  exact ⟨⟨_, f5, rfl⟩, k _ f5 f3 f4 ⟨_, f1, rfl, rfl⟩ ⟨_, f2, rfl, rfl⟩ fun c o x => up _ _ (up4 _ _ (up3 _ _ (up2 _ _ (Heap.get?_push_of_some _ x))))⟩
end
def iZipM (K : PySem.W.Frag) (ta : TA) : TI := fun σ H R => ta σ H fun vs H1 => ∃ a b xs ys, vs = [.ref a, .ref b] ∧ SqL K H1 a xs ∧ SqT K H1 b ys ∧ R (Itm K a b xs ys) H1
theorem pi_zipM {X : Cx} {e e2 : Expr} {ta : TA} {p pos tpos : Pos} {elts : List Expr} {kk : Nat} (hg : Gl X "zip") (hm : X.mg "zip" = none) (ha : PA X [e, e2] ta)
    (hs : starEach [e, e2] X.env = (false, eval e X.env) :: starEach [e2] X.env := by rfl) (hpl : (backTo pos (starEach [e2] X.env)).any (·.1) = false := by rfl) :
    PI X (.Tuple elts kk tpos) (.Call (.Name "zip" p) [e, e2] [] pos) (iZipM X.K ta) := by
  constructor
  intro pins s σ H R I h
  refine Call_ (ld_blt I hg hm PyProof.Rows.boot_zip (PyProof.Rows.callWith_type1 (thn (ha.run pos pins s σ H _ I h) ?_) hs hpl))
  rintro us s1 ⟨vs, H1, I1, r1, a, b, xs, ys, rfl, qa, qb, q⟩
  cases r1 with
  | cons ra rr =>
    cases rr with
    | cons rb rr =>
      cases rr
      cases ra
      cases rb
      obtain ⟨as, va, pa, _⟩ := I1.list qa
      obtain ⟨bs, vb, pb, _⟩ := I1.tuple qb
      obtain ⟨ob, eb, _⟩ := id pb
      refine call_zipM pa.isList (show s1.heap.IsTuple b bs.toArray from pb) fun h' z1 z2 z3 z4 z5 hk => wpAny_pyIter_zip z1 ?_
      have I2 : Inv X pins σ H1 { s1 with heap := h' } := I1.kept (t' := s1.toks) hk
      refine ⟨s1.heap.objs.size + 4, [s1.heap.objs.size + 4, s1.heap.objs.size + 2, s1.heap.objs.size + 3, s1.heap.objs.size, s1.heap.objs.size + 1], _, _, H1, rfl, I2, turn_zipM (PySem.W.ktu_apart s1.heap.objs.size a b pa.lt (Heap.lt_size eb)), ⟨z1, z2, ⟨_, _, z3⟩, z4, z5, Nat.zero_le _, Nat.zero_le _⟩, fun c hm => ?_, q⟩
      have le : s1.heap.objs.size ≤ c := by
        simp only [List.mem_cons, List.not_mem_nil, or_false] at hm
        rcases hm with rfl | rfl | rfl | rfl | rfl
        all_goals first | exact Nat.le_refl _ | exact Nat.le_add_right _ _
      exact I1.fpOk le (I1.hok.fresh le)
def iZipQ (K : PySem.W.Frag) (ta : TA) : TI := fun σ H R => RZ.iZipA K ta σ H R ∨ iZipM K ta σ H R
theorem pi_zipQ {X : Cx} {K : PySem.W.Frag} {p pos tpos : Pos} {e e2 : Expr} {ta : TA} {elts : List Expr} {kk : Nat} (hg : Gl X "zip") (hm : X.mg "zip" = none) (ha : PA X [e, e2] ta) (hK : X.K = K := by rfl)
    (hs : starEach [e, e2] X.env = (false, eval e X.env) :: starEach [e2] X.env := by rfl) (hpl : (backTo pos (starEach [e2] X.env)).any (·.1) = false := by rfl) :
    PI X (.Tuple elts kk tpos) (.Call (.Name "zip" p) [e, e2] [] pos) (iZipQ K ta) := by
  subst hK
  exact PI.or (RZ.pi_zipA hg hm ha hs hpl) (pi_zipM hg hm ha hs hpl)
theorem walk_zipM {K : PySem.W.Frag} {a b : Addr} {xs ys : List V} {n : Nat} (hn : n = min xs.length ys.length) : Walk (Itm K a b xs ys) n (fun H => SqL K H a xs ∧ SqT K H b ys) (YPair (fun i => xs[i]?) (fun i => ys[i]?)) := by
  subst hn
  exact ⟨fun i _ hi q => ⟨q.1, q.2, by omega, by omega⟩, fun _ q => ⟨q.1, q.2, by omega⟩, fun _ _ _ _ _ _ y => y⟩
end Sd

/-! M17: a tuple taken once, or not at all -/
namespace Sd
open PySem PySem.Spec PyProof.Rows L2
theorem tup_times1 (l : Addr) (items : Array Value) (n : Nat) (dd : Option Addr) (sl : Array (Option Value)) (u : Tok) :
    Meets (Builtin.«tuple.__mul__» ⟨[.ref l, .int 1 u], []⟩) (fun _ R s => s.heap.get? l = some { cls := .type "tuple", dict := dd, data := .seq items n, slots := sl } ∧ R (.ok (.ret (Value.ref l))) s) :=
  .of_wp fun prog w A R s h => by
    obtain ⟨hp, g, d, tk, os⟩ := s
    obtain ⟨hl, h⟩ := h
    have f1 := AutoSeq1.idx_int
    have c0 : (decide ((1 : Int) < -(2 ^ 63)) || decide ((1 : Int) ≥ 2 ^ 63)) = false := by decide
    have c1 : (items.isEmpty || (1 : Int) == 1) = true := by simp
    wp_walk using wpAny_loadPart' hl
    repeat (first
      | (refine wpAny_ite_false (decide_eq_false (by rw [c0]; exact Bool.false_ne_true)) ?_; wp_walk using wpAny_loadPart' hl)
      | (refine wpAny_ite_true (decide_eq_true c1) ?_; wp_walk using wpAny_loadPart' hl))
    exact ⟨_, rfl, h⟩
theorem tup_times0 (l : Addr) (items : Array Value) (n : Nat) (dd : Option Addr) (sl : Array (Option Value)) (u : Tok) (hne : items.isEmpty = false) :
    Meets (Builtin.«tuple.__mul__» ⟨[.ref l, .int 0 u], []⟩) (fun _ R s => s.heap.get? l = some { cls := .type "tuple", dict := dd, data := .seq items n, slots := sl } ∧
      R (.ok (.ret (Value.ref s.heap.objs.size))) { s with heap := s.heap.push { cls := Value.type "tuple", data := Data.seq #[] }, toks := s.toks }) :=
  .of_wp fun prog w A R s h => by
    obtain ⟨hp, g, d, tk, os⟩ := s
    obtain ⟨hl, h⟩ := h
    have f1 := AutoSeq1.idx_int
    have c0 : (decide ((0 : Int) < -(2 ^ 63)) || decide ((0 : Int) ≥ 2 ^ 63)) = false := by decide
    have c1 : (items.isEmpty || (0 : Int) == 1) = false := by rw [hne]; decide
    have c2 : (decide ((0 : Int) ≤ 0) || items.isEmpty) = true := by simp
    wp_walk using wpAny_loadPart' hl
    repeat (first
      | (refine wpAny_ite_false (decide_eq_false (by rw [c0]; exact Bool.false_ne_true)) ?_; wp_walk using wpAny_loadPart' hl)
      | (refine wpAny_ite_false (decide_eq_false (by rw [c1]; exact Bool.false_ne_true)) ?_; wp_walk using wpAny_loadPart' hl)
      | (refine wpAny_ite_true (decide_eq_true c2) ?_; wp_walk using wpAny_loadPart' hl))
    exact ⟨_, rfl, h⟩
def rRep01 (K : PySem.W.Frag) : R2 := fun x y H Q => ∃ (l : Addr) (k : Int) (xs : List V), x = .ref l ∧ y = .int k ∧ SqT K H l xs ∧ xs ≠ [] ∧ ((k = 1 ∧ Q (.ref l) H) ∨ (k = 0 ∧ ∀ p, H p = none → Q (.ref p) (upd H p (.tup []))))
section
variable {X : Cx}
theorem op_rep01 : OpR X (binaryOp .Mult) (rRep01 X.K) := by
  intro pins s σ H x y v u Q I rx ry h
  obtain ⟨l, k, xs, rfl, rfl, hT, hne, hk⟩ := h
  cases rx
  obtain ⟨t, rfl⟩ := ry
  obtain ⟨its, r, ⟨⟨cls, dd, data, sl⟩, ho, hcls, n, hdt⟩, hs⟩ := I.tuple hT
  simp only at hcls hdt
  subst hcls hdt
  have hle := r.length
  have hi : its.toArray.isEmpty = false := by
    cases its with
    | nil =>
      cases xs with
      | nil => exact absurd rfl hne
      | cons a b => simp at hle
    | cons a b => rfl
  have goes : ∀ {R : Value → Shared → Prop}, wpAny (model X.prog X.w) X.A (call (.builtin "tuple.__mul__") [.ref l, .int k t]) R X.xe s → wpAny (model X.prog X.w) X.A (binaryOp .Mult (.ref l) (.int k t)) R X.xe s := fun hh =>
    wpAny_binaryOp_repeat_ref (T := "tuple") (U := "int") (by decide) ⟨_, ho, rfl⟩ (fun s' => typeIs_int s' k t) noFill_tuple_mul F.fills_int_mul F.slot_int_rmul repeat_tuple F.slot_int_index.lookup
      (call_meets F.slot_int_rmul (typeIs_int s k t) F.entry_int_rmul (F.args_int_rmul_2 _ _) (int_rmul_tuple k t l its.toArray n dd sl) ⟨ho, rfl, ⟨_, ho, rfl⟩, hh⟩)
  rcases hk with ⟨rfl, q⟩ | ⟨rfl, q⟩
  · exact goes (call_meets F.slot_tuple_mul ⟨_, ho, rfl⟩ F.entry_tuple_mul (F.args_tuple_mul_2 _ _) (tup_times1 l its.toArray n dd sl t) ⟨ho, ⟨.ref l, H, I, rfl, q⟩⟩)
  · refine goes (call_meets F.slot_tuple_mul ⟨_, ho, rfl⟩ F.entry_tuple_mul (F.args_tuple_mul_2 _ _) (tup_times0 l its.toArray n dd sl t hi) ⟨ho, ?_⟩)
    refine ⟨.ref s.heap.objs.size, _, I.laid (t' := s.toks) (o := .tup []) (fun b ob q => Heap.get?_push_of_some _ q) (Nat.le_refl _) ?_, rfl, q _ (I.hok.fresh (Nat.le_refl _))⟩
    exact ⟨Nat.zero_le _, _, .nil, IsTup.new _ _⟩
def rMulQ (K : PySem.W.Frag) : R2 := fun x y H Q => rMulU x y H Q ∨ (rRepT K x y H Q ∨ rRep01 K x y H Q)
theorem op_mulQ {K : PySem.W.Frag} (hK : X.K = K := by rfl) : OpR X (binaryOp .Mult) (rMulQ K) := by
  subst hK
  exact OpR.or op_mulU (OpR.or op_repT op_rep01)
end
end Sd

/-! S75a: an error class of the text called with keywords -/
namespace PySem
namespace S75
open PySem.HandSPX PySem.Calls PySem.W PyProof.Rows
section
open Builtin Builtin.ObjectAttr
/-- C(.., k = v): a class over ValueError whose __init__ is a def of the text. Its new exception lies behind the tuple of the values given by place; __init__ gets all of them -/
theorem made_kw {prog : Program} {w : World} {A : Around} {R : Result → Shared → Prop} {K : Frag} {C ini : Addr} {given : List Value} {byName : List (Str × Value)} {s : Shared}
    (T : L2.OexC K C) (X : K.In s.heap) (own : findIn K (.ref C) "__init__" = some (some (.ref ini))) (fn : typeIn K (.ref ini) = some (.type "function")) (few : given.length ≤ sizeLine)
    (go : codeAny (model prog w) (A.under (.builtin "type.__call__" ⟨.ref C :: given, byName⟩)) (.call (.ref ini) ⟨.ref (s.heap.objs.size + 1) :: given, byName⟩) (InitBack (s.heap.objs.size + 1) R)
      { s with heap := (s.heap.push (kdv_tup given)).push (HandSPX.excO C s.heap.objs.size) }) : codeAny (model prog w) A (.call (.ref C) ⟨given, byName⟩) R s := by
  rcases s with ⟨hp, gn, dr, tk, sys⟩
  dsimp only at X go
  rcases T.cls with ⟨_, _, _, _, up, _, _, _, _, _, _, _, _, _, _, atK, tail⟩
  have oC : hp.get? C = some _ := X _ _ atK
  have V := PySem.F.excBase_ValueError
  have above : ∀ Y : String, (Value.ref C :: up).contains (.type Y) = HandSPX.veTail.contains (.type Y) := fun Y => by
    rw [List.contains_cons, HandSPX.refsVE_contains Y up tail]
    rfl
  have isV := (above "ValueError").trans V.hasB
  have notA := (above "AttributeError").trans V.noAttr
  have notN := (above "NameError").trans V.noName
  have itself : (Value.ref C :: up).contains (.ref C) = true := by simp
  have lookI : Looks (model prog w) hp (typeLookup (.ref C) "__init__") (some (.ref ini)) := looks_findIn X own
  have bindI : ∀ me, Looks (model prog w) hp (bindSpecial (.ref ini) me) (.ref ini, [me]) := fun me => bind_fn X me fn
  have stays : ∀ b o, hp.get? b = some o → ((hp.push (kdv_tup given)).push (HandSPX.excO C hp.objs.size)).get? b = some o :=
    fun b o e => Heap.get?_push_of_some _ (Heap.get?_push_of_some _ e)
  have newC := stays _ _ oC
  have newE : ((hp.push (kdv_tup given)).push (HandSPX.excO C hp.objs.size)).get? (hp.objs.size + 1) = some (HandSPX.excO C hp.objs.size) := by heap_get
  have _f1 := tc_lookup
  have _f2 := tc_bind (.ref C)
  have _ty : (⟨hp, gn, dr, tk, sys⟩ : Shared).TypeIs (.ref C) "type" := ⟨_, oC, rfl⟩
  have _st := V.noStar
  have _en := V.ends
  -- the birth: nothing is asked of the keywords
  have birth : ∀ {A' : Around} {R' : Result → Shared → Prop}, R' (.ok (.ret (.ref (hp.objs.size + 1)))) ⟨(hp.push (kdv_tup given)).push (excO C hp.objs.size), gn, dr, tk, sys⟩ →
      codeAny (model prog w) A' (.builtin "ValueError.__new__" ⟨.ref C :: given, byName⟩) R' ⟨hp, gn, dr, tk, sys⟩ := by
    intro A' R' q
    apply codeAny_builtinAt V.entry
    unfold Builtin.«BaseException.__new__»
    apply wpAt_bind
    change wpAt _ _ _ (stack >>= _) _ _ _
    refine wpAt_bind (wpAt_stack fun _ _ => ?_)
    apply wpAt_of_wpAny
    wp_walk
    apply wpAt_of_wpAny
    rw [V.owner]
    repeat first | (with_reducible refine wpAny_madeHere_exc V.canon oC ?_) | (with_reducible refine wpAny_loadPart_at oC ?_) | (with_reducible refine wpAny_isSubtype_exc oC ?_; first | rw [isV] | rw [notA] | rw [notN]) | wp_step
    change R' _ _
    rw [Heap.size_push]
    exact q
  -- the call of the class
  apply codeAny_of_tree
  change wpAny _ _ (callAny (.ref C) _) _ _ _
  repeat (any_goals first | assumption | (with_reducible refine wpAny_loadPart_at oC ?_) | wp_step)
  refine ⟨rfl, codeAny_call_builtin_at (Code.quiet_builtin _ (by decide +kernel)) entry_typeCall (wpAny_check_type_call_sub oC ?_)⟩
  repeat first | (with_reducible refine wpAny_loadPart_at oC ?_) | (with_reducible refine wpAny_madeBy_exc oC ?_) | wp_step
  refine codeAny_call_builtin_code (Code.quiet_builtin _ V.quiet) ?_
  simp only [checkBuiltinCall, V.newKind, V.newSplit, V.newRow]
  repeat first | refine wpAny_loadPart_at oC ?_ | (refine wpAny_isSubtype_exc oC ?_; rw [isV]) | refine wpAny_staticBase_exc oC ?_ | refine wpAny_madeBy_exc oC ?_ | simp only [bne_self_eq_false, Bool.false_eq_true, if_false] | wp_step
  apply birth
  change wpAny _ _ _ _ _ _
  unfold isInstance
  repeat first | (with_reducible refine wpAny_loadPart_at newE ?_) | (with_reducible refine wpAny_isSubtype_exc newC ?_; rw [itself]) | wp_step
  change wpAny _ _ (typeLookup (.ref C) _) _ _ _
  apply (lookI.keeps stays).at
  apply wpAny_holding
  apply wpAny_bind
  apply ((bindI (.ref (hp.objs.size + 1))).keeps stays).at
  apply wpAny_bind
  apply wpAny_call
  refine codeAny_mono go fun r s' z => ?_
  match r, z with
  | .error _, z => exact z
  | .ok .next, z => exact z.elim
  | .ok .brk, z => exact z.elim
  | .ok .cont, z => exact z.elim
  | .ok (.ret _), ⟨e, z⟩ =>
    subst e
    first
      | exact wpAny_pure (wpAny_pure z)
      | (wp_walk; exact z)
end
end S75
end PySem

/-! S75b: isinstance of an exception that has its dict; its field read -/
namespace PySem.S75
open PySem PySem.Spec PySem.Calls PySem.W PyProof.Rows
section
variable {prog : Program} {w : World} {K : Frag} {x D : Addr} {ox : Obj} {od : Option Obj}
/-- e.__class__ of an exception with a dict of its own: the dict is not asked, the slot of object goes ahead -/
theorem cls_read (T : L2.ExcC K D) {A : Around} {E : Value → Shared → Prop} {s : Shared} {Q : Option Value → Shared → Prop} (X : K.In s.heap) (I : InstAt s.heap x ox D od) (q : Q (some (.ref D)) { s with toks := s.toks + 1 }) :
    wpAny (model prog w) A (getAttr? (.ref x) "__class__") Q E s := by
  obtain ⟨hg, hk, hs, hd, ha, hn, ht, hm⟩ := T
  have slot : findObj K D od "__class__" = some (.bind (.builtin "getset_descriptor.__get__") (.builtin "object.__class__")) := by
    obtain ⟨cd, hc, _⟩ := any_some hd
    unfold findObj
    simp [hc, ha, hn, ht]
  rcases s with ⟨hp, gn, dr, tk, sys⟩
  dsimp only at X I q
  have tyL := I.type (M := model prog w)
  have gaL := looks_findIn (M := model prog w) X hg
  have gtL := looks_findIn (M := model prog w) X hk
  have slL := looks_find (M := model prog w) X I slot
  have exL : Looks (model prog w) hp (isInstance (.ref x) (.type "BaseException")) true := tyL.andThen (looks_subIn X hs)
  have onH : onTheHeap (Value.ref D) = true := rfl
  have notObj : (Value.builtin "BaseException.__getattribute__" == Value.builtin "object.__getattribute__") = false := by decide +kernel
  unfold getAttr? getAttrBy? getAttrBy
  apply wpAny_bind
  apply wpAny_mkText
  apply wpAny_bind
  apply wpAny_attempt
  apply wpAny_holding
  apply wpAny_bind
  apply tyL.at
  apply wpAny_bind
  apply gaL.at
  change wpAny _ _ (ite ((onTheHeap (Value.ref D) && _) = true) _ _) _ _ _
  rw [notObj, Bool.and_false, if_neg Bool.false_ne_true]
  unfold getAttrByItsOwn hookBefore
  apply wpAny_bind
  rw [if_pos onH]
  apply gtL.at
  apply wpAny_bind
  apply wpAny_attempt
  apply wpAny_holding
  unfold callGetattribute
  rw [if_neg (by simp)]
  unfold boundAndCalled
  rw [PySem.F.excAttr_ValueError.ga.bind (.ref x)]
  apply wpAny_bind
  apply wpAny_pure
  change wpAny _ _ (call (.builtin "BaseException.__getattribute__") [.ref x, .str "__class__" tk]) _ _ _
  apply wpAny_call
  refine codeAny_call_builtin PySem.F.excAttr_ValueError.ga.plain PySem.F.entry_bexc_ga
    (@check_slot (model prog w) _ _ ⟨hp, gn, dr, tk + 1, sys⟩ _ "BaseException" "__getattribute__" (.ref x) [.str "__class__" tk] [] _ (by decide +kernel) (by decide +kernel) exL (PySem.F.args_bexc_ga (.ref x) (.str "__class__" tk)) ?_)
  unfold Builtin.«object.__getattribute__»
  apply wpAny_bind
  refine wpAny_of_eq (a := ((Value.ref x : Value), [Value.str "__class__" tk])) (by first | rfl | (simp only [slotArgs]; rfl)) ?_
  apply wpAny_bind
  apply wpAny_pure
  apply wpAny_bind
  apply tyL.at
  apply wpAny_bind
  apply slL.at
  change wpAny _ _ (holding _ (call (.builtin "getset_descriptor.__get__") [.builtin "object.__class__", .ref x, .ref D]) >>= ret) _ _ _
  apply wpAny_bind
  apply wpAny_holding
  apply wpAny_call
  refine class_get (s := ⟨hp, gn, dr, tk + 1, sys⟩) (ox := ox) (od := od) X I hm (wpAny_pure ?_)
  change wpAny _ _ (handedOut (.ref D)) _ _ _
  rw [handedOut_of (v := .ref D) rfl]
  repeat first | exact q | apply wpAny_pure | apply wpAny_bind
/-- what isinstance asks of such an exception -/
theorem kit_err (T : L2.ExcC K D) : KitX K (.ref x) (.ref D) (fun h => InstAt h x ox D od) := by
  have cls : ∃ c d cd sl, K.lookup D = some ⟨c, d, .cls cd, sl⟩ := by
    obtain ⟨cd, e, _⟩ := any_some T.hd
    unfold clsIn at e
    split at e
    · rename_i c d cd' sl ho
      exact ⟨c, d, cd', sl, ho⟩
    · cases e
  obtain ⟨c, d, cd, sl, ho⟩ := cls
  refine ⟨fun _ _ _ I => I.type, fun _ _ X _ => ?_, fun h tp dd its n sl' X e => ?_, fun X I k => cls_read T X I k⟩
  · intro A Q E s kp q
    unfold isType loadHead
    apply wpAny_bind
    exact wpAny_loadPart (kp _ _ (X _ _ ho)) (wpAny_pure q)
  · cases z : (Value.ref D == Value.ref tp) with
    | false => rfl
    | true =>
      cases Value.ref.inj (beq_iff_eq.mp z)
      cases (X _ _ ho).symm.trans e
end
end PySem.S75

namespace Sd
open PySem PySem.Spec PyProof.Rows L2
/-- isinstance(e, c), e an exception made here -/
def rIsX (K : PySem.W.Frag) : List V → Hp → VK → Prop := fun xs H Q => ∃ (a D dx : Addr) (fs : List (Str × V)) (c : V) (u : Value) (b : Bool), xs = [.ref a, c] ∧ ExcC K D ∧ ClsV c u ∧ H a = some (exo a D (some dx)) ∧ H dx = some (exd dx fs) ∧ PySem.W.kitOne K (.ref D) u = some b ∧ Q (.bl b) H
/-- an exception made here, as the heap bears it -/
theorem exo_inst {X : Cx} {pins : List (Addr × Obj)} {σ : L2.St} {H : Hp} {s : Shared} {a D dx : Addr} {fs : List (Str × V)} (I : Inv X pins σ H s) (ha : H a = some (exo a D (some dx))) (hd : H dx = some (exd dx fs)) :
    ∃ (t1 : Addr) (od : Obj) (mA : Str → Option Value), PySem.W.InstAt s.heap a { cls := .ref D, dict := some dx, data := .fields #[.ref t1, .none, .none, .none, .bool false, .none] } D (some od) ∧ s.heap.get? dx = some od ∧ s.heap.Ns1 dx mA ∧ ∀ f, RelO (fs.lookup f) (mA f) := by
  obtain ⟨mA, hns, rel⟩ := exd_at I.hok hd
  obtain ⟨od, es, ep, h1, h2⟩ := id hns
  exact (exo_at I.hok ha).elim fun t1 ho => ⟨t1, od, mA, ⟨ho, rfl, rfl, h1⟩, h1, hns, rel⟩
theorem call_isX {X : Cx} : CallR X (.builtin "isinstance") (rIsX X.K) := by
  rintro pins s σ H xs us Q I r ⟨a, D, dx, fs, c, u, b, rfl, T, k, ha, hd, e, q⟩
  obtain ⟨u1, u2, rfl, r1, r2⟩ := vals2 r
  cases r1
  cases k.eq r2
  obtain ⟨t1, od, mA, J, _⟩ := exo_inst I ha hd
  exact PySem.W.kia_one (PySem.S75.kit_err T) I.kIn J e (fun z => nomatch z) fun tk => ⟨.bl b, H, I.kept (t' := tk) fun _ _ z => z, rfl, q⟩
/-- e.f, e an exception made here -/
def tXv (K : PySem.W.Frag) (f : Str) (te : TE) : TE := fun σ H Q => te σ H fun x H1 => ∃ (a D dx : Addr) (fs : List (Str × V)) (v : V), x = .ref a ∧ XfC K D ∧ PySem.W.findIn K (.ref D) f = some none ∧ H1 a = some (exo a D (some dx)) ∧ H1 dx = some (exd dx fs) ∧ fs.lookup f = some v ∧ Q v H1
theorem pe_xv {X : Cx} {K : PySem.W.Frag} {e : Expr} {te : TE} {pos : Pos} {n : Str} (he : PE X e te) (hK : X.K = K := by rfl) (hb : attributeBase e n X.env (eval e X.env) = eval e X.env := by rfl) :
    PE X (.Attribute e n pos) (tXv K n te) := by
  subst hK
  constructor
  intro pins s σ H Q I h
  refine attr_of hb (thn (he.run pins s σ H _ I h) ?_)
  rintro u s1 ⟨x, H1, I1, rx, a, D, dx, fs, v, rfl, T, hno, ha, hd, l, q⟩
  cases rx
  obtain ⟨t1, od, mA, J, hod, hns, rel⟩ := exo_inst I1 ha hd
  obtain ⟨od', ho', hl⟩ := lookIn_ns hns
  cases hod.symm.trans ho'
  obtain ⟨u, hu, ru⟩ := RelO.some_of (v := v) (o := mA n) (l ▸ rel n)
  exact HandSPX.exc_get I1.kIn J T.ga T.gg T.exC (PySem.W.findObj_own T.hdC hno rfl (by rw [hl, hu])) (handed_of ru) ⟨v, H1, I1.tok _, ru, q⟩
end Sd

/-! S75c: an own exception made by a call, kept as a value -/
namespace Sd
open PySem PySem.Spec PyProof.Rows L2
/-- C(e, .., k = v, ..): the exception is new and tracked -/
def tXmk (C : Addr) (sp : Sp) (ta tk : TA) : TE := fun σ H Q => ta σ H fun vs H1 => tk σ H1 fun zs H2 => vs.length ≤ 1000 ∧ ∀ a, H2 a = none → sp (.ref a :: (vs ++ zs)) (upd H2 a (exo a C none)) (fun v H3 => v = .non ∧ Q (.ref a) H3) fun _ _ _ => False
section
variable {X : Cx} {CX : CXT} {k n : Nat} {fI C : Addr} {fd : FuncData} {ps ks : List Str} {sp : Sp} {x : Str} {p pos : Pos} {e : Expr} {es : List Expr} {kws : List Keyword} {t tk : TA}
/-- the class called with values us and keywords ks = ws: the new exception is tracked while its __init__ runs -/
theorem run_oex {pins : List (Addr × Obj)} {σ : L2.St} {H : Hp} {s : Shared} {Q : VK} {us ws : List Value} {vs zs : List V} (T : OexC X.K C) (iC : PySem.W.findIn X.K (.ref C) "__init__" = some (some (.ref fI))) (tI : PySem.W.typeIn X.K (.ref fI) = some (.type "function"))
    (I1 : FnOk X.prog X.w X.K X.mg X.base CX k fI fd ps sp) (hr : Room (k + 1) X.A) (hb : ∀ (s : Shared) (a : Addr), BindsTo s fd ⟨.ref a :: us, ks.zip ws⟩ (ps.zip (.ref a :: (us ++ ws)))) (hx : Passes CX X (fun _ _ _ => False)) (I : Inv X pins σ H s) (r : Vals vs us) (rz : Vals zs ws) (hz : vs.length ≤ 1000)
    (h : ∀ a, H a = none → sp (.ref a :: (vs ++ zs)) (upd H a (exo a C none)) (fun v H3 => v = .non ∧ Q (.ref a) H3) fun _ _ _ => False) :
    wpAny (model X.prog X.w) X.A (call (.ref C) us (ks.zip ws)) (EP X pins σ Q) X.xe s := by
  -- where it will stand, and the heap with it
  generalize ea : s.heap.objs.size + 1 = a
  have above : s.heap.objs.size ≤ a := by omega
  generalize eh : (s.heap.push (PySem.W.kdv_tup us)).push (PySem.HandSPX.excO C s.heap.objs.size) = h2
  have there : h2.get? a = some (PySem.HandSPX.excO C s.heap.objs.size) := by
    subst eh ea
    heap_get
  have more : ∀ b o, s.heap.get? b = some o → h2.get? b = some o := by
    subst eh
    exact fun b o e => Heap.get?_push_of_some _ (Heap.get?_push_of_some _ e)
  have J : Inv X pins σ (upd H a (exo a C none)) { s with heap := h2 } := I.laid (t' := s.toks) more above (exo_ok there)
  have few : us.length ≤ sizeLine := by
    have := r.length
    rw [sizeLine_eq]
    omega
  have told := h a (I.hok.fresh above)
  apply wpAny_call
  apply PySem.S75.made_kw T I.kIn iC tI few
  rw [ea, eh]
  refine codeAny_mono (I1.run _ X.stack _ _ ⟨.ref a :: us, ks.zip ws⟩ (.ref a :: (us ++ ws)) (.ref a :: (vs ++ zs)) _ (fun _ _ _ => False) (hr.make C us (ks.zip ws)) (J.env0.make C us (ks.zip ws)) (hb _ _) (.cons rfl (r.append rz)) told) ?_
  intro z s' q
  match z, q with
  | .error e, q => exact hx pins σ _ _ e s' J q
  | .ok .next, q => exact q.elim
  | .ok .brk, q => exact q.elim
  | .ok .cont, q => exact q.elim
  | .ok (.ret u), q =>
    obtain ⟨v, H3, J3, rv, rfl, q3⟩ := J.after q
    exact ⟨rv, .ref a, H3, J3, rfl, q3⟩
/-- C(e, ..) -/
theorem pe_oex (T : OexC X.K C) (iC : PySem.W.findIn X.K (.ref C) "__init__" = some (some (.ref fI))) (tI : PySem.W.typeIn X.K (.ref fI) = some (.type "function"))
    (F1 : FnOk X.prog X.w X.K X.mg X.base CX k fI fd ps sp) (hr : Room (k + 1) X.A) (hb : ∀ (s : Shared) (a : Addr) (us : List Value), us.length + 1 = ps.length → BindsTo s fd ⟨.ref a :: us, []⟩ (ps.zip (.ref a :: us))) (hx : Passes CX X (fun _ _ _ => False)) (hg : Gl X x) (hm : X.mg x = some (.ref C)) (ha : PA X (e :: es) t)
    (hl : (e :: es).length + 1 = ps.length) (hdb : (x == ("__debug__" : Str)) = false := by decide) (he : starEach (e :: es) X.env = (false, eval e X.env) :: starEach es X.env := by rfl) (hpl : (backTo pos (starEach es X.env)).any (·.1) = false := by rfl) :
    PE X (.Call (.Name x p) (e :: es) [] pos) (fun σ H Q => t σ H fun vs H1 => vs.length + 1 = ps.length ∧ tXmk C sp (fun _ H Q => Q vs H) tNil σ H1 Q) := by
  refine ⟨fun pins s σ H Q I h => ?_⟩
  refine wpAny_Call_Name_kw (ld_glob I hg hm ?_ hdb)
  refine PySem.W.callWith_K (h₀ := X.base) I.ok.mod.kin T.kC (thn (ha.run pos pins s σ H _ I h) fun us s1 ⟨vs, H1, I1, r1, e1, hz, q1⟩ => ⟨I1.kIn, ?_⟩) he hpl
  exact run_oex (us := us) (ws := []) (vs := vs) (zs := []) (ks := []) T iC tI F1 hr (fun s a => by
    have := hb s a us (by rw [← r1.length]; exact e1)
    rw [List.append_nil]
    exact this) hx I1 r1 .nil hz q1
/-- C(k = v) -/
theorem pe_oexK (T : OexC X.K C) (iC : PySem.W.findIn X.K (.ref C) "__init__" = some (some (.ref fI))) (tI : PySem.W.typeIn X.K (.ref fI) = some (.type "function"))
    (F1 : FnOk X.prog X.w X.K X.mg X.base CX k fI fd ps sp) (hr : Room (k + 1) X.A) (hb : ∀ (s : Shared) (a : Addr) (ws : List Value), ws.length = ks.length → BindsTo s fd ⟨[.ref a], ks.zip ws⟩ (ps.zip (.ref a :: ws))) (hx : Passes CX X (fun _ _ _ => False)) (hg : Gl X x) (hm : X.mg x = some (.ref C)) (hkw : PK X kws tk)
    (hall : (backToKw pos (keywordEach kws X.env)).all (·.1.isSome) = true := by rfl) (hks : (backToKw pos (keywordEach kws X.env)).filterMap (·.1) = ks := by rfl) (hdb : (x == ("__debug__" : Str)) = false := by decide)
    (hpl : ((backTo pos (starEach [] X.env)).any (·.1) || (backToKw pos (keywordEach kws X.env)).any (·.1.isNone)) = false := by rfl) :
    PE X (.Call (.Name x p) [] kws pos) (fun σ H Q => tk σ H fun zs H1 => zs.length = ks.length ∧ tXmk C sp tNil (fun _ H Q => Q zs H) σ H1 Q) := by
  refine ⟨fun pins s σ H Q I h => ?_⟩
  refine wpAny_Call_Name_kw (ld_glob I hg hm ?_ hdb)
  refine PySem.W.callWith_KW0 (h₀ := X.base) I.ok.mod.kin T.kC hall ?_ hpl
  refine thn (hkw.run pos pins s σ H _ I h) fun ws s2 ⟨zs, H2, I2, rz, l2, hz, q2⟩ => ⟨I2.kIn, ?_⟩
  rw [hks]
  exact run_oex (us := []) (vs := []) T iC tI F1 hr (fun s a => hb s a ws (by rw [← rz.length]; exact l2)) hx I2 .nil rz (by simp) q2
end
/-- __init__(self, value): self.value = value -/
def spInit (K : PySem.W.Frag) : Sp := fun vs H Q _ => ∃ (a C : Addr) (v : V), vs = [.ref a, v] ∧ OexC K C ∧ PySem.W.findIn K (.ref C) "value" = some none ∧ H a = some (exo a C none) ∧
  ∀ dx, H dx = none → dx ≠ a → Q .non (upd (upd H dx (exd dx [("value", v)])) a (exo a C (some dx)))
end Sd

/-! S75d: lambdas that are kept and called later -/
namespace Sd
open PySem PySem.Spec PyProof.Rows L2 LamX

/-- a lambda's function object at f, its code object at c -/
def LamO (f : Addr) (q : Str) (params : Arguments) (body : Expr) (scope : Scope) (c : Addr) : HO := .ext fun h => ∃ pm ctv, h.get? f = some (PySem.W.kla_obj "<lambda>" q params body scope [] pm c ctv)
theorem lamO_ne {f c : Addr} {q : Str} {params : Arguments} {body : Expr} {scope : Scope} (ps : Array Value) : LamO f q params body scope c ≠ .tbl ps := fun z => by
  unfold LamO at z
  cases z
theorem lamO_ok {P : Program} {w : World} {H : Hp} {h : Heap} {f c : Addr} {q : Str} {params : Arguments} {body : Expr} {scope : Scope} {pm ctv : Value} (e : h.get? f = some (PySem.W.kla_obj "<lambda>" q params body scope [] pm c ctv)) : ObjOk P w H h f (LamO f q params body scope c) :=
  ⟨⟨pm, ctv, e⟩, ⟨_, e⟩, fun h1 h2 ⟨pm, ctv, z⟩ k => ⟨pm, ctv, k _ z⟩⟩
theorem lamO_at {P : Program} {w : World} {H : Hp} {h : Heap} {f c : Addr} {q : Str} {params : Arguments} {body : Expr} {scope : Scope} (hok : HOk P w H h) (e : H f = some (LamO f q params body scope c)) : ∃ pm ctv, h.get? f = some (PySem.W.kla_obj "<lambda>" q params body scope [] pm c ctv) :=
  (show ObjOk P w H h f (.ext fun h => ∃ pm ctv, h.get? f = some (PySem.W.kla_obj "<lambda>" q params body scope [] pm c ctv)) from hok f _ e).1
theorem codeO_at {P : Program} {w : World} {H : Hp} {h : Heap} {c : Addr} {q : Str} (ok : HOk P w H h) (e : H c = some (CodeO c q)) : h.CodeRec (.ref c) q := by
  have z : ObjOk P w H h c (.ext _) := ok c _ e
  rcases z.1 with ⟨o, us, t, h1, h2, h3⟩
  exact ⟨c, o, us, t, rfl, h1, h2, h3⟩

/-- the lambda: a new function object; its code object is new or found in the table at P -/
def tLam (P : Addr) (q : Str) (params : Arguments) (body : Expr) (scope : Scope) : TE := fun σ H Q => TabS H P q ∧ ∀ (f c : Addr) (H1 : Hp), H f = none → Go [P] H H1 → TabS H1 P q → H1 f = some (LamO f q params body scope c) → H1 c = some (CodeO c q) → Q (.ref f) H1
section
variable {X : Cx}
theorem pe_lam {c P : Addr} {q : Str} {params : Arguments} {body : Expr} {scope : Scope} {pos : Pos} (TB : TabB X.base X.mg c P) (hcode : X.env.code = .ref c) (hq : X.env.qual ++ "<lambda>" = q) (hdef : defaultsOf params X.env = ([], []))
    (hfree : ∀ y ∈ scope.names, y.2 = .free → ∃ c, X.env.cells.lookup y.1 = some c) (hcl : cloFrom X.env.cells scope.names [] = []) : PE X (.Lambda params body scope pos) (tLam P q params body scope) := by
  subst hq
  constructor
  rintro pins s σ H Q I ⟨tab, k⟩
  obtain ⟨rows, atP, tri, known⟩ := id tab
  have inP : s.heap.get? P = some (PySem.W.tabObj rows) := I.hok P _ atP
  have blt := TB.bm.keeps I.bk
  have cod := TB.code.keeps I.bk
  have glb := I.mod.glob.keeps I.bk
  apply PySem.W.kla_eval hdef
  cases found : codeAmong pos rows.toList with
  | some v =>
    -- its code object is there already: the function object alone is new
    rcases known pos v found with ⟨d, rfl, hd⟩
    refine PySem.W.kla_makeFunctionHit (closure_ok hfree) I.ok.glob glb hcode cod inP tri found blt fun ct g tk old sz => ?_
    rw [hcl]
    have none_ : H g.objs.size = none := I.hok.fresh sz
    have at_ : (g.push (PySem.W.kla_obj "<lambda>" (X.env.qual ++ "<lambda>") params body scope [] ((X.mg "__name__").getD .none) d ct)).get? g.objs.size = some _ := Heap.get?_push_size _ rfl
    have J := I.laid (t' := tk) (o := LamO g.objs.size (X.env.qual ++ "<lambda>") params body scope d) (fun b u e => Heap.get?_push_of_some _ (old b u e)) sz (lamO_ok at_)
    have same : ∀ b u, H b = some u → upd H g.objs.size (LamO g.objs.size (X.env.qual ++ "<lambda>") params body scope d) b = some u := fun b u e => (upd_ne (ne_of_none e none_)).trans e
    exact ⟨.ref g.objs.size, _, J, rfl, k _ d _ none_ ⟨fun b u _ e => same b u e, fun b u _ e => same b u e⟩ (tab.ext same) upd_same (same _ _ hd)⟩
  | none =>
    -- a code object is made and written into the table, then the function object
    refine PySem.W.kla_makeFunction (closure_ok hfree) I.ok.glob glb hcode cod inP tri found TB.gP blt fun d ct g tk but lo hi rec table => ?_
    rw [hcl]
    rcases rec with ⟨_, oc, us, t, e, hoc, hus, hname⟩
    cases e
    generalize er : rows ++ #[rawInt pos.line, rawInt pos.col, .ref d] = rows2 at table
    have listed : rows2.toList = rows.toList ++ [rawInt pos.line, rawInt pos.col, .ref d] := by
      rw [← er]
      simp
    have noneD : H d = none := I.hok.fresh lo
    have noneF : H g.objs.size = none := I.hok.fresh (by omega)
    have J0 := inv_table (t' := tk) (q := X.env.qual ++ "<lambda>") I atP but (er ▸ table) lo ⟨oc, us, t, hoc, hus, hname⟩
    rw [er] at J0
    have at_ : (g.push (PySem.W.kla_obj "<lambda>" (X.env.qual ++ "<lambda>") params body scope [] ((X.mg "__name__").getD .none) d ct)).get? g.objs.size = some _ := Heap.get?_push_size _ rfl
    have J := J0.laid (t' := tk) (o := LamO g.objs.size (X.env.qual ++ "<lambda>") params body scope d) (fun b u e => Heap.get?_push_of_some _ e) (Nat.le_refl _) (lamO_ok at_)
    have f1 : P ≠ d := ne_of_none atP noneD
    have f2 : P ≠ g.objs.size := ne_of_none atP noneF
    have f3 : d ≠ g.objs.size := Nat.ne_of_lt hi
    generalize eh : upd (upd (upd H P (.tbl rows2)) d (CodeO d (X.env.qual ++ "<lambda>"))) g.objs.size (LamO g.objs.size (X.env.qual ++ "<lambda>") params body scope d) = H2 at J
    have inD : H2 d = some (CodeO d (X.env.qual ++ "<lambda>")) := by rw [← eh, upd_ne f3, upd_same]
    have inT : H2 P = some (.tbl rows2) := by rw [← eh, upd_ne f2, upd_ne f1, upd_same]
    have inF : H2 g.objs.size = some (LamO g.objs.size (X.env.qual ++ "<lambda>") params body scope d) := by rw [← eh, upd_same]
    have same : ∀ b u, b ≠ P → H b = some u → H2 b = some u := fun b u n e => by
      rw [← eh, upd_ne (ne_of_none e noneF), upd_ne (ne_of_none e noneD), upd_ne n]
      exact e
    have offP : ∀ {b : Addr} {u : HO}, H b = some u → (∀ r, u ≠ .tbl r) → b ≠ P := fun e n z => n rows (Option.some.inj (e.symm.trans (z ▸ atP)))
    have tab2 : TabS H2 P (X.env.qual ++ "<lambda>") := by
      refine ⟨rows2, inT, by rw [listed]; exact PySem.TriplesOk_snoc _ _ _ _ tri, fun p v hv => ?_⟩
      rw [listed] at hv
      rcases among_app _ tri hv with y | rfl
      · rcases known p v y with ⟨b, rfl, hb⟩
        exact ⟨b, rfl, same _ _ (offP hb codeO_ne) hb⟩
      · exact ⟨d, rfl, inD⟩
    refine ⟨.ref g.objs.size, H2, J, rfl, k _ d H2 noneF ⟨fun b u hb e => same b u (by simpa using hb) e, fun b u hf e => same b u (offP e fun r z => ?_) e⟩ tab2 inF inD⟩
    rw [z] at hf
    cases hf
end

/-- what a lambda promises when it is called -/
def LamOk (P : Program) (w : World) (K : PySem.W.Frag) (mg : Str → Option Value) (base : Heap) (cx : CXT) (k : Nat) (q : Str) (params : Arguments) (body : Expr) (scope : Scope) (sp : Sp) : Prop :=
  ∀ (A : Around) (out : List Env) (s : Shared) (H : Hp) (f c : Addr) (pm ctv : Value) (us : List Value) (vs : List V) (Q : VK) (E : XK), Room k A → Env0 P w K mg base A out s H → s.heap.get? f = some (PySem.W.kla_obj "<lambda>" q params body scope [] pm c ctv) →
    s.heap.CodeRec (.ref c) q → Vals vs us → sp vs H Q E → codeAny (model P w) A (.call (.ref f) ⟨us, []⟩) (CR cx out P w H s Q E) s
theorem lam_of {cx : CXT} {P : Program} {w : World} {K : PySem.W.Frag} {mg : Str → Option Value} {base : Heap} {k : Nat} {q : Str} {params : Arguments} {body : Expr} {scope : Scope} {N ps : List Str} {sp : Sp}
    (S : FnScope N ps scope) (len : ∀ vs H Q E, sp vs H Q E → vs.length = ps.length)
    (hbind : ∀ (us : List Value) (pm cv ctv : Value), us.length = ps.length → bindArgs (PySem.W.kla_fn "<lambda>" q params body scope [] pm cv ctv) ⟨us, []⟩ = pure (ps.zip us))
    (hb : ∀ (A : Around) (out : List Env) (s : Shared) (H : Hp) (f c : Addr) (vs : List V) (Q : VK) (E : XK), Room k (A.deeper (envOfC q scope s.heap.objs.size f (.ref c))) → sp vs H Q E →
      ∃ t, PE (cxOf cx P w K mg base N q scope f (.ref c) A out s H E) body t ∧ t (start N vs) H Q) : LamOk P w K mg base cx (k + 1) q params body scope sp := by
  intro A out s H f c pm ctv us vs Q E hr e0 ho hcr r hsp
  have hl := len _ _ _ _ hsp
  have free_ := e0.mod.nolimit.keeps fun b o e => (e0.bs b o e).1
  have slots : ∀ y ∈ ps.zip us, scope.names.lookup y.1 = some .local ∨ (scope.names.lookup y.1 = some .cell ∧ ((cellsFrom (s.heap.objs.size + 1) scope.names []).lookup y.1).isSome = true) := fun y hy =>
    (S.par y.1 (List.of_mem_zip (show (y.1, y.2) ∈ _ from hy)).1).imp _root_.id fun z => ⟨z, PySem.W.cellsFrom_some _ _ _ (.inl z)⟩
  refine PySem.W.kla_callFunE hr.depth ho rfl S.co S.gen rfl hcr ?_
  rw [hbind us pm (.ref c) ctv (by rw [← r.length]; exact hl)]
  refine wpAny_pure ?_
  refine wpAny_newFunctionEnv_cells S.kind slots fun env he s1 x => ?_
  subst he
  refine ⟨free_.keeps x.toInCall.keep, ?_⟩
  obtain ⟨t, ht, hq⟩ := hb A out s H f c vs Q E (hr.deeper _) hsp
  have I : Inv (cxOf cx P w K mg base N q scope f (.ref c) A out s H E) [] (start N vs) H s1 := inv_start S hr.hd e0 hl r x
  refine PySem.W.kla_codeExpr (wpAny_mono (ht.run [] s1 (start N vs) H _ I hq) (fun u s' hs => ?_) fun e s' hs => hs)
  obtain ⟨v, H', J, rv, qv⟩ := hs
  exact ⟨v, H', J.os, J.bare, J.base, J.hok, rv, qv⟩

section
variable {X : Cx}
theorem s75_call_sub (a b : Expr) (p : Pos) (args : List Expr) (pos : Pos) (env : Env) : eval (.Call (.Subscript a b p) args [] pos) env = (do callWith pos (← eval (.Subscript a b p) env) [] (backTo pos (starEach args env)) (backToKw pos (keywordEach [] env))) := rfl
/-- l[i](e, ..), a lambda there -/
def tLamCall (P : Program) (w : World) (K : PySem.W.Frag) (mg : Str → Option Value) (base : Heap) (cx : CXT) (k : Nat) (E : XK) (tf : TE) (ta : TA) : TE := fun σ H Q => tf σ H fun fv H1 => ∃ (f c : Addr) (q : Str) (params : Arguments) (body : Expr) (scope : Scope) (sp : Sp), fv = .ref f ∧ H1 f = some (LamO f q params body scope c) ∧
  ta σ H1 fun vs H2 => H2 f = some (LamO f q params body scope c) ∧ H2 c = some (CodeO c q) ∧ LamOk P w K mg base cx k q params body scope sp ∧ sp vs H2 Q E
theorem pe_lamcall {cx : CXT} {k : Nat} {E : XK} {a b e : Expr} {es : List Expr} {p pos : Pos} {tf : TE} {ta : TA} (hr : Room k X.A) (hx : Passes cx X E) (hf : PE X (.Subscript a b p) tf) (ha : PA X (e :: es) ta)
    (he : starEach (e :: es) X.env = (false, eval e X.env) :: starEach es X.env := by rfl) (hpl : (backTo pos (starEach es X.env)).any (·.1) = false := by rfl) :
    PE X (.Call (.Subscript a b p) (e :: es) [] pos) (tLamCall X.prog X.w X.K X.mg X.base cx k E tf ta) := by
  refine ⟨fun pins s σ H Q I h => ?_⟩
  rw [s75_call_sub]
  refine wpAny_bind (thn (hf.run pins s σ H _ I h) fun u s1 hh => ?_)
  obtain ⟨fv, H1, I1, r1, f, c, q, params, body, scope, sp, ef, hl, q1⟩ := hh
  subst ef
  obtain rfl : u = Value.ref f := r1
  obtain ⟨pm, ctv, ho⟩ := lamO_at I1.hok hl
  refine PySem.W.callWith_F ⟨_, _, _, _, ho⟩ (thn (ha.run pos pins s1 σ H1 _ I1 q1) fun us s2 ⟨vs, H2, I2, r2, hl2, hc2, L, hsp⟩ => ?_) he hpl
  obtain ⟨pm2, ctv2, ho2⟩ := lamO_at I2.hok hl2
  refine ⟨⟨_, _, _, _, ho2⟩, ?_⟩
  show wpAny _ _ (call (.ref f) us) _ _ _
  refine wpAny_call (codeAny_mono (L X.A X.stack s2 H2 f c pm2 ctv2 us vs Q E hr I2.env0 ho2 (codeO_at I2.hok hc2) r2 hsp) ?_)
  intro z s' hq
  match z, hq with
  | .error e, hq => exact hx pins σ H2 s2 e s' I2 hq
  | .ok (.ret u), hq => exact I2.after hq
  | .ok .next, hq => exact hq.elim
  | .ok .brk, hq => exact hq.elim
  | .ok .cont, hq => exact hq.elim
end
end Sd

/-! D1: a dict beside a text -/
namespace PySem.SeqAt
open AutoSeq1 (wpAny_loadPart')
open MeetsSeq
/-- a dict stands there -/
abbrev DictAt (s : Shared) (a : Addr) (es : Array DictEntry) (n : Nat) (own : Option Addr) (sl : Array (Option Value)) : Prop := s.heap.get? a = some { cls := .type "dict", dict := own, data := .dict es n, slots := sl }
theorem txt_eq_dict (z : Str) (tk : Tok) (a : Addr) (es : Array DictEntry) (n : Nat) (own : Option Addr) (sl : Array (Option Value)) :
    Meets (Builtin.«str.__eq__» ⟨[.str z tk, .ref a], []⟩) (fun _ R s => DictAt s a es n own sl ∧ R (.ok (.ret .notImplemented)) s) := by
  refine .of_wp fun _ _ _ R st both => ?_
  rcases st with ⟨hp, gens, drw, toks, sys⟩
  rcases both with ⟨there, back⟩
  wp_walk using wpAny_loadPart' there, wpAny_load there
  exact ⟨_, rfl, back⟩
theorem dict_eq_txt (a : Addr) (es : Array DictEntry) (n : Nat) (own : Option Addr) (sl : Array (Option Value)) (z : Str) (tk : Tok) :
    Meets (Builtin.«dict.__eq__» ⟨[.ref a, .str z tk], []⟩) (fun _ R s => DictAt s a es n own sl ∧ R (.ok (.ret .notImplemented)) s) := by
  refine .of_wp fun _ _ _ R st both => ?_
  rcases st with ⟨hp, gens, drw, toks, sys⟩
  rcases both with ⟨there, back⟩
  have notSub := F.sub_str_dict
  wp_walk using wpAny_loadPart' there
  exact ⟨_, rfl, back⟩
/-- eqBool by richCompare: a text and a place -/
theorem eq_by_rc1 {A : Around} {s : Shared} {z : Str} {tk : Tok} {a : Addr} {k : Bool} (rc : RcAt A s (.str z tk) (.ref a) k) : EqAt A s (.str z tk) (.ref a) k := by
  intro prog w E Q done
  unfold eqBool
  apply wpAny_holding
  apply wpAny_ite_split
  · intro same
    exact absurd (eq_of_beq same) nofun
  · intro _
    exact wpAny_bind (rc prog w E _ (wpAny_truthy_bool done))
theorem eq_by_rc2 {A : Around} {s : Shared} {z : Str} {tk : Tok} {a : Addr} {k : Bool} (rc : RcAt A s (.ref a) (.str z tk) k) : EqAt A s (.ref a) (.str z tk) k := by
  intro prog w E Q done
  unfold eqBool
  apply wpAny_holding
  apply wpAny_ite_split
  · intro same
    exact absurd (eq_of_beq same) nofun
  · intro _
    exact wpAny_bind (rc prog w E _ (wpAny_truthy_bool done))
section
variable {A : Around} {s : Shared} {a : Addr} {o : Obj} {es : Array DictEntry} {n : Nat}
theorem RcAt.str_dict (z : Str) (tk : Tok) (there : s.heap.get? a = some o) (hc : o.cls = .type "dict") (hd : o.data = .dict es n) (room : A.units < cLine) : RcAt A s (.str z tk) (.ref a) false := by
  intro prog w E Q done
  rcases o with ⟨cls, own, data, sl⟩
  dsimp only at hc hd
  subst hc hd
  refine rc_eq_decline_or (k := false) (typeIs_str s z tk) ⟨_, there, rfl⟩ (by decide) F.sub_dict_str F.slot_str_eq F.slot_dict_eq_refl ?_ ?_ ?_ (.inr room) done
  · intro R back
    exact call_meets F.slot_str_eq (typeIs_str s z tk) F.entry_str_eq (F.args_str_eq_2 _ _) (txt_eq_dict z tk a es n own sl) ⟨there, back⟩
  · intro R back
    exact call_meets F.slot_dict_eq_refl ⟨_, there, rfl⟩ F.entry_dict_eq (F.args_dict_eq_2 _ _) (dict_eq_txt a es n own sl z tk) ⟨there, back⟩
  · intro R back
    exact wpAny_of_eq (show isSame (.str z tk) (.ref a) = pure false from rfl) back
theorem RcAt.dict_str (z : Str) (tk : Tok) (there : s.heap.get? a = some o) (hc : o.cls = .type "dict") (hd : o.data = .dict es n) (room : A.units < cLine) : RcAt A s (.ref a) (.str z tk) false := by
  intro prog w E Q done
  rcases o with ⟨cls, own, data, sl⟩
  dsimp only at hc hd
  subst hc hd
  refine rc_eq_decline_or (k := false) ⟨_, there, rfl⟩ (typeIs_str s z tk) (by decide) F.sub_str_dict F.slot_dict_eq F.slot_str_eq_refl ?_ ?_ ?_ (.inr room) done
  · intro R back
    exact call_meets F.slot_dict_eq ⟨_, there, rfl⟩ F.entry_dict_eq (F.args_dict_eq_2 _ _) (dict_eq_txt a es n own sl z tk) ⟨there, back⟩
  · intro R back
    exact call_meets F.slot_str_eq_refl (typeIs_str s z tk) F.entry_str_eq (F.args_str_eq_2 _ _) (txt_eq_dict z tk a es n own sl) ⟨there, back⟩
  · intro R back
    exact wpAny_of_eq (show isSame (.ref a) (.str z tk) = pure false from rfl) back
theorem EqAt.str_dict (z : Str) (tk : Tok) (there : s.heap.get? a = some o) (hc : o.cls = .type "dict") (hd : o.data = .dict es n) (room : A.units < cLine) : EqAt A s (.str z tk) (.ref a) false := eq_by_rc1 (RcAt.str_dict z tk there hc hd room)
theorem EqAt.dict_str (z : Str) (tk : Tok) (there : s.heap.get? a = some o) (hc : o.cls = .type "dict") (hd : o.data = .dict es n) (room : A.units < cLine) : EqAt A s (.ref a) (.str z tk) false := eq_by_rc2 (RcAt.dict_str z tk there hc hd room)
end
end PySem.SeqAt

/-! D2: data with dicts, tuples of any place: where they are carried, how they are laid, their repr, isinstance of them -/
namespace Sd
open PySem PySem.Spec PyProof.Rows L2 LamX
variable {K : PySem.W.Frag}
mutual
/-- at v stands the data d; the cells of M are not of it -/
def Rq (K : PySem.W.Frag) (M : List Addr) (H : Hp) : PyData → V → Prop
  | .none, v => v = .non
  | .bool b, v => v = .bl b
  | .int i, v => v = .int i
  | .str s, v => v = .str s
  | .tuple ds, v => ∃ a xs, v = .ref a ∧ SqT K H a xs ∧ RqA K M H ds xs
  | .list ds, v => ∃ a xs, v = .ref a ∧ a ∉ M ∧ (a == sysModules) = false ∧ H a = some (.lst xs) ∧ RqA K M H ds xs
  | .dict kvs, v => ∃ a ks, v = .ref a ∧ a ∉ M ∧ H a = some (.dK ks) ∧ RqK K M H kvs ks
def RqA (K : PySem.W.Frag) (M : List Addr) (H : Hp) : List PyData → List V → Prop
  | [], xs => xs = []
  | d :: ds, xs => ∃ v vs, xs = v :: vs ∧ Rq K M H d v ∧ RqA K M H ds vs
def RqK (K : PySem.W.Frag) (M : List Addr) (H : Hp) : List (PyData × PyData) → List (Key × V) → Prop
  | [], xs => xs = []
  | (k, d) :: ds, xs => ∃ s v vs, xs = (.inr s, v) :: vs ∧ k = .str s ∧ Rq K M H d v ∧ RqK K M H ds vs
end
mutual
theorem Rq.go {M : List Addr} {H H' : Hp} (g : Go M H H') : ∀ (d : PyData) (v : V), Rq K M H d v → Rq K M H' d v
  | .none, _, h => h
  | .bool b, _, h => h
  | .int i, _, h => h
  | .str s, _, h => h
  | .tuple ds, v, h => by
    simp only [Rq] at h ⊢
    obtain ⟨a, xs, e, ha, hd⟩ := h
    exact ⟨a, xs, e, g.sqT ha, RqA.go g ds xs hd⟩
  | .list ds, v, h => by
    simp only [Rq] at h ⊢
    obtain ⟨a, xs, e, hm, hs, ha, hd⟩ := h
    exact ⟨a, xs, e, hm, hs, g.old _ _ hm ha, RqA.go g ds xs hd⟩
  | .dict kvs, v, h => by
    simp only [Rq] at h ⊢
    obtain ⟨a, ks, e, hm, ha, hd⟩ := h
    exact ⟨a, ks, e, hm, g.old _ _ hm ha, RqK.go g kvs ks hd⟩
theorem RqA.go {M : List Addr} {H H' : Hp} (g : Go M H H') : ∀ (ds : List PyData) (xs : List V), RqA K M H ds xs → RqA K M H' ds xs
  | [], _, h => h
  | d :: ds, xs, h => by
    simp only [RqA] at h ⊢
    obtain ⟨v, vs, e, h1, h2⟩ := h
    exact ⟨v, vs, e, Rq.go g d v h1, RqA.go g ds vs h2⟩
theorem RqK.go {M : List Addr} {H H' : Hp} (g : Go M H H') : ∀ (ds : List (PyData × PyData)) (xs : List (Key × V)), RqK K M H ds xs → RqK K M H' ds xs
  | [], _, h => h
  | (k, d) :: ds, xs, h => by
    simp only [RqK] at h ⊢
    obtain ⟨s, v, vs, e, ek, h1, h2⟩ := h
    exact ⟨s, v, vs, e, ek, Rq.go g d v h1, RqK.go g ds vs h2⟩
end
mutual
theorem Rq.sub {M N : List Addr} {H : Hp} (g : ∀ a ∈ M, a ∈ N) : ∀ (d : PyData) (v : V), Rq K N H d v → Rq K M H d v
  | .none, _, h => h
  | .bool b, _, h => h
  | .int i, _, h => h
  | .str s, _, h => h
  | .tuple ds, v, h => by
    simp only [Rq] at h ⊢
    obtain ⟨a, xs, e, ha, hd⟩ := h
    exact ⟨a, xs, e, ha, RqA.sub g ds xs hd⟩
  | .list ds, v, h => by
    simp only [Rq] at h ⊢
    obtain ⟨a, xs, e, hm, hs, ha, hd⟩ := h
    exact ⟨a, xs, e, fun z => hm (g a z), hs, ha, RqA.sub g ds xs hd⟩
  | .dict kvs, v, h => by
    simp only [Rq] at h ⊢
    obtain ⟨a, ks, e, hm, ha, hd⟩ := h
    exact ⟨a, ks, e, fun z => hm (g a z), ha, RqK.sub g kvs ks hd⟩
theorem RqA.sub {M N : List Addr} {H : Hp} (g : ∀ a ∈ M, a ∈ N) : ∀ (ds : List PyData) (xs : List V), RqA K N H ds xs → RqA K M H ds xs
  | [], _, h => h
  | d :: ds, xs, h => by
    simp only [RqA] at h ⊢
    obtain ⟨v, vs, e, h1, h2⟩ := h
    exact ⟨v, vs, e, Rq.sub g d v h1, RqA.sub g ds vs h2⟩
theorem RqK.sub {M N : List Addr} {H : Hp} (g : ∀ a ∈ M, a ∈ N) : ∀ (ds : List (PyData × PyData)) (xs : List (Key × V)), RqK K N H ds xs → RqK K M H ds xs
  | [], _, h => h
  | (k, d) :: ds, xs, h => by
    simp only [RqK] at h ⊢
    obtain ⟨s, v, vs, e, ek, h1, h2⟩ := h
    exact ⟨s, v, vs, e, ek, Rq.sub g d v h1, RqK.sub g ds vs h2⟩
end
theorem RqA.at {M : List Addr} {H : Hp} : ∀ {ds : List PyData} {xs : List V} {r : Nat} {v : V}, RqA K M H ds xs → xs[r]? = some v → ∃ d, ds[r]? = some d ∧ Rq K M H d v
  | [], xs, r, v, h, e => by
    simp only [RqA] at h
    subst h
    simp at e
  | d :: ds, xs, r, v, h, e => by
    simp only [RqA] at h
    obtain ⟨v', vs, rfl, h1, h2⟩ := h
    cases r with
    | zero =>
      have e' : v' = v := Option.some.inj e
      subst e'
      exact ⟨d, rfl, h1⟩
    | succ r => exact RqA.at (r := r) h2 e
theorem RqA.len {M : List Addr} {H : Hp} : ∀ {ds : List PyData} {xs : List V}, RqA K M H ds xs → xs.length = ds.length
  | [], xs, h => by
    simp only [RqA] at h
    subst h
    rfl
  | d :: ds, xs, h => by
    simp only [RqA] at h
    obtain ⟨v', vs, rfl, h1, h2⟩ := h
    simp [RqA.len h2]
theorem RqA.app {M : List Addr} {H : Hp} : ∀ {ds es : List PyData} {xs ys : List V}, RqA K M H ds xs → RqA K M H es ys → RqA K M H (ds ++ es) (xs ++ ys)
  | [], es, xs, ys, h, h' => by
    simp only [RqA] at h
    subst h
    exact h'
  | d :: ds, es, xs, ys, h, h' => by
    simp only [RqA] at h
    obtain ⟨v', vs, rfl, h1, h2⟩ := h
    show RqA K M H (d :: (ds ++ es)) (v' :: (vs ++ ys))
    simp only [RqA]
    exact ⟨v', _, rfl, h1, RqA.app h2 h'⟩

/-! ### its repr -/
section
variable {X : Cx} {pins : List (Addr × Obj)} {σ : L2.St} {H : Hp} {s : Shared} {M : List Addr}
mutual
theorem Rq.reads (I : Inv X pins σ H s) : ∀ (d : PyData) (v : V) (u : Value), Rq X.K M H d v → RelV v u → ∃ as, Reads s.heap u d as ∧ sysModules ∉ as
  | .none, v, u, h, r => by
    simp only [Rq] at h
    subst h
    cases r
    exact ⟨_, Reads.none, by simp⟩
  | .bool b, v, u, h, r => by
    simp only [Rq] at h
    subst h
    cases r
    exact ⟨_, Reads.bool b, by simp⟩
  | .int i, v, u, h, r => by
    simp only [Rq] at h
    subst h
    obtain ⟨t, rfl⟩ := r
    exact ⟨_, Reads.int i t, by simp⟩
  | .str x, v, u, h, r => by
    simp only [Rq] at h
    subst h
    obtain ⟨t, rfl⟩ := r
    exact ⟨_, Reads.str x t, by simp⟩
  | .tuple ds, v, u, h, r => by
    simp only [Rq] at h
    obtain ⟨a, xs, rfl, ha, hd⟩ := h
    obtain rfl : u = Value.ref a := r
    obtain ⟨its, rv, ⟨o, ho, hc, n, hd'⟩, _⟩ := I.tuple ha
    obtain ⟨as, hr, hs⟩ := RqA.reads I ds xs its hd rv
    exact ⟨as, Reads.tuple ho hc hd' hr, hs⟩
  | .list ds, v, u, h, r => by
    simp only [Rq] at h
    obtain ⟨a, xs, rfl, hm, hsy, ha, hd⟩ := h
    obtain rfl : u = Value.ref a := r
    obtain ⟨_, its, n, rv, h1⟩ := (show ObjOk X.prog X.w H s.heap a (.lst xs) from I.hok a _ ha)
    obtain ⟨as, hr, hs⟩ := RqA.reads I ds xs its hd rv
    refine ⟨a :: as, Reads.list h1 rfl rfl (by simpa using hr), fun z => ?_⟩
    rcases List.mem_cons.mp z with z | z
    · rw [← z] at hsy
      simp at hsy
    · exact hs z
  | .dict kvs, v, u, h, r => by
    simp only [Rq] at h
    obtain ⟨a, ks, rfl, hm, ha, hd⟩ := h
    obtain rfl : u = Value.ref a := r
    obtain ⟨_, hsy, vs, rv, o, es, ep, h1, h2, h3, _, hp, _⟩ := (show ObjOk X.prog X.w H s.heap a (.dK ks) from I.hok a _ ha)
    obtain ⟨as, bs, hr1, hr2, hs1, hs2⟩ := RqK.reads I kvs ks vs es.toList hd rv hp
    refine ⟨a :: as ++ bs, Reads.dict h1 h2.1 h3 hr1 hr2, fun z => ?_⟩
    rcases List.mem_append.mp z with z | z
    · rcases List.mem_cons.mp z with z | z
      · rw [← z] at hsy
        simp at hsy
      · exact hs1 z
    · exact hs2 z
theorem RqA.reads (I : Inv X pins σ H s) : ∀ (ds : List PyData) (xs : List V) (us : List Value), RqA X.K M H ds xs → Vals xs us → ∃ as, ReadsAll s.heap us ds as ∧ sysModules ∉ as
  | [], xs, us, h, r => by
    simp only [RqA] at h
    subst h
    cases r
    exact ⟨_, ReadsAll.nil, by simp⟩
  | d :: ds, xs, us, h, r => by
    simp only [RqA] at h
    obtain ⟨v, vs, rfl, h1, h2⟩ := h
    cases r with
    | cons rv rt =>
      obtain ⟨as, a1, a2⟩ := Rq.reads I d v _ h1 rv
      obtain ⟨bs, b1, b2⟩ := RqA.reads I ds vs _ h2 rt
      exact ⟨_, ReadsAll.cons a1 b1, fun z => (List.mem_append.mp z).elim a2 b2⟩
theorem RqK.reads (I : Inv X pins σ H s) : ∀ (ds : List (PyData × PyData)) (xs : List (Key × V)) (us : List (Key × Value)) (es : List DictEntry), RqK X.K M H ds xs → KV xs us → Pairs (mixKind X.prog X.w) es us →
    ∃ as bs, ReadsAll s.heap (es.map (·.key)) (ds.map (·.1)) as ∧ ReadsAll s.heap (es.map (·.val)) (ds.map (·.2)) bs ∧ sysModules ∉ as ∧ sysModules ∉ bs
  | [], xs, us, es, h, r, p => by
    simp only [RqK] at h
    subst h
    cases r
    cases p
    exact ⟨_, _, ReadsAll.nil, ReadsAll.nil, by simp, by simp⟩
  | (k, d) :: ds, xs, us, es, h, r, p => by
    simp only [RqK] at h
    obtain ⟨x, v, vs, rfl, rfl, h1, h2⟩ := h
    cases r with
    | @cons _ q1 _ qs rv rt =>
      obtain ⟨k1, u1⟩ := q1
      obtain ⟨e1, rv⟩ := rv
      dsimp only at e1 rv
      subst e1
      cases p with
      | cons hk hv pt =>
        obtain ⟨as, bs, a1, b1, a2, b2⟩ := RqK.reads I ds vs qs _ h2 rt pt
        obtain ⟨t, ek⟩ := Value.isStrOf_shape (show Value.isStrOf x _ = true from hk)
        obtain ⟨cs, c1, c2⟩ := Rq.reads I d v _ h1 rv
        refine ⟨[] ++ as, cs ++ bs, ReadsAll.cons ?_ a1, ReadsAll.cons ?_ b1, by simpa using a2, fun z => (List.mem_append.mp z).elim c2 b2⟩
        · show Reads s.heap (DictEntry.key _) (.str x) []
          rw [ek]
          exact Reads.str x t
        · show Reads s.heap (DictEntry.val _) d cs
          rw [hv]
          exact c1
end
end

/-! ### repr(v) -/
def rReprQ (K : PySem.W.Frag) (M : List Addr) (A : Around) : List V → Hp → VK → Prop := fun xs H Q => ∃ v d, xs = [v] ∧ Rq K M H d v ∧ d.showable = true ∧ d.shown.length ≤ sizeLine ∧ A.units + (d.depth + 1) < cLine ∧ Q (.str d.shown) H
theorem call_reprQ {X : Cx} {K : PySem.W.Frag} {M : List Addr} (hG : X.A.guards = some []) (hK : X.K = K := by rfl) : CallR X (.builtin "repr") (rReprQ K M X.A) := by
  subst hK
  intro pins s σ H xs us Q I r h
  obtain ⟨v, d, rfl, hd, hs, hz, hu, q⟩ := h
  obtain ⟨u, rfl, rx⟩ := vals1 r
  obtain ⟨as, rd, hno⟩ := Rq.reads I d v u hd rx
  cases d with
  | none =>
    simp only [Rq] at hd
    subst hd
    cases rx
    refine PySem.P.repr_of_none ⟨.str _, H, I.tok _, ⟨_, rfl⟩, ?_⟩
    exact q
  | bool b =>
    simp only [Rq] at hd
    subst hd
    cases rx
    refine PySem.P.repr_of_bool ⟨.str _, H, I.tok _, ⟨_, rfl⟩, ?_⟩
    exact q
  | int i =>
    simp only [Rq] at hd
    subst hd
    obtain ⟨t, rfl⟩ := rx
    refine PySem.P.repr_of_int (by simpa [PyData.showable] using hs) ⟨.str _, H, I.tok _, ⟨_, rfl⟩, ?_⟩
    exact q
  | str x =>
    simp only [Rq] at hd
    subst hd
    obtain ⟨t, rfl⟩ := rx
    refine PySem.P.repr_of_str ⟨.str _, H, I.tok _, ⟨_, rfl⟩, ?_⟩ hz
    exact q
  | list ds =>
    simp only [Rq] at hd
    obtain ⟨a, xs, rfl, _⟩ := hd
    cases rx
    exact repr_of_reads' rd hs (fun _ => hno) hG hu (fun _ _ e => e) (fun h' u tk kp => ⟨.str _, H, I.kept (t' := tk) kp, ⟨_, rfl⟩, q⟩) hz
  | tuple ds =>
    simp only [Rq] at hd
    obtain ⟨a, xs, rfl, _⟩ := hd
    cases rx
    exact repr_of_reads' rd hs (fun _ => hno) hG hu (fun _ _ e => e) (fun h' u tk kp => ⟨.str _, H, I.kept (t' := tk) kp, ⟨_, rfl⟩, q⟩) hz
  | dict ds =>
    simp only [Rq] at hd
    obtain ⟨a, xs, rfl, _⟩ := hd
    cases rx
    exact repr_of_reads' rd hs (fun _ => hno) hG hu (fun _ _ e => e) (fun h' u tk kp => ⟨.str _, H, I.kept (t' := tk) kp, ⟨_, rfl⟩, q⟩) hz

/-! ### how data are laid -/
/-- [e, ..]: its place is not that of sys.modules -/
def tLstS (t : TA) : TE := fun σ H Q => t σ H fun xs H1 => xs.length ≤ sizeLine ∧ ∀ p, H1 p = none → (p == sysModules) = false → Q (.ref p) (upd H1 p (.lst xs))
theorem pe_lstS {X : Cx} {es : List Expr} {t : TA} {pos : Pos} (h : PA X es t) : PE X (.List es pos) (tLstS t) := by
  refine ⟨fun pins s σ H Q I hq => ?_⟩
  refine wpAny_List_spliced (thn (h.run pos pins s σ H _ I hq) fun us s1 ⟨xs, H1, I1, r, z, q⟩ => ⟨by rw [← r.length]; exact z, ?_⟩)
  have hf : H1 s1.heap.objs.size = none := I1.hok.fresh (Nat.le_refl _)
  have hb : (s1.heap.objs.size == sysModules) = false := beq_eq_false_iff_ne.mpr (Nat.ne_of_gt I1.big)
  refine ⟨.ref s1.heap.objs.size, upd H1 s1.heap.objs.size (.lst xs), I1.laid (t' := s1.toks) (fun b u e => Heap.get?_push_of_some _ e) (Nat.le_refl _) ?_, rfl, q _ hf hb⟩
  exact ⟨z, us, 0, r, Heap.get?_push_size _ rfl⟩
theorem notM {M : List Addr} {H H' : Hp} (hM : ∀ a ∈ M, H a ≠ none) (g : Go [] H H') : ∀ a ∈ M, H' a ≠ none := fun a ha e => hM a ha (g.free (by simp) e)
mutual
theorem Rq.wide {M N : List Addr} {H : Hp} (g : ∀ a ∈ N, a ∈ M ∨ H a = none) : ∀ (d : PyData) (v : V), Rq K M H d v → Rq K N H d v
  | .none, _, h => h
  | .bool b, _, h => h
  | .int i, _, h => h
  | .str s, _, h => h
  | .tuple ds, v, h => by
    simp only [Rq] at h ⊢
    obtain ⟨a, xs, e, ha, hd⟩ := h
    exact ⟨a, xs, e, ha, RqA.wide g ds xs hd⟩
  | .list ds, v, h => by
    simp only [Rq] at h ⊢
    obtain ⟨a, xs, e, hm, hs, ha, hd⟩ := h
    exact ⟨a, xs, e, fun z => (g a z).elim hm (fun y => by rw [y] at ha; cases ha), hs, ha, RqA.wide g ds xs hd⟩
  | .dict kvs, v, h => by
    simp only [Rq] at h ⊢
    obtain ⟨a, ks, e, hm, ha, hd⟩ := h
    exact ⟨a, ks, e, fun z => (g a z).elim hm (fun y => by rw [y] at ha; cases ha), ha, RqK.wide g kvs ks hd⟩
theorem RqA.wide {M N : List Addr} {H : Hp} (g : ∀ a ∈ N, a ∈ M ∨ H a = none) : ∀ (ds : List PyData) (xs : List V), RqA K M H ds xs → RqA K N H ds xs
  | [], _, h => h
  | d :: ds, xs, h => by
    simp only [RqA] at h ⊢
    obtain ⟨v, vs, e, h1, h2⟩ := h
    exact ⟨v, vs, e, Rq.wide g d v h1, RqA.wide g ds vs h2⟩
theorem RqK.wide {M N : List Addr} {H : Hp} (g : ∀ a ∈ N, a ∈ M ∨ H a = none) : ∀ (ds : List (PyData × PyData)) (xs : List (Key × V)), RqK K M H ds xs → RqK K N H ds xs
  | [], _, h => h
  | (k, d) :: ds, xs, h => by
    simp only [RqK] at h ⊢
    obtain ⟨s, v, vs, e, ek, h1, h2⟩ := h
    exact ⟨s, v, vs, e, ek, Rq.wide g d v h1, RqK.wide g ds vs h2⟩
end
/-- an expression that lays data, from the heap H0 on, apart from the cells of M0 -/
def Gr (K : PySem.W.Frag) (M0 : List Addr) (H0 : Hp) (σ : L2.St) (te : TE) (d : PyData) : Prop := ∀ (M : List Addr) (H : Hp) (Q : VK), (∀ a ∈ M, H a ≠ none ∧ (a ∈ M0 ∨ H0 a = none)) → Go [] H0 H → (∀ v H', Go [] H H' → Rq K M H' d v → Q v H') → te σ H Q
def GrA (K : PySem.W.Frag) (M0 : List Addr) (H0 : Hp) (σ : L2.St) (ta : TA) (ds : List PyData) : Prop := ∀ (M : List Addr) (H : Hp) (Q : List V → Hp → Prop), (∀ a ∈ M, H a ≠ none ∧ (a ∈ M0 ∨ H0 a = none)) → Go [] H0 H → (∀ vs H', Go [] H H' → RqA K M H' ds vs → Q vs H') → ta σ H Q
section
variable {M0 : List Addr} {H0 : Hp} {σ : L2.St}
theorem nMr {M : List Addr} {H H' : Hp} (hM : ∀ a ∈ M, H a ≠ none ∧ (a ∈ M0 ∨ H0 a = none)) (g : Go [] H H') : ∀ a ∈ M, H' a ≠ none ∧ (a ∈ M0 ∨ H0 a = none) := fun a ha => ⟨fun e => (hM a ha).1 (g.free (by simp) e), (hM a ha).2⟩
theorem gr_c {v : V} {d : PyData} (h : ∀ M H, Rq K M H d v) : Gr K M0 H0 σ (tC v) d := fun M H Q _ _ q => q v H (Go.refl _ _) (h M H)
theorem gr_non : Gr K M0 H0 σ (tC .non) .none := gr_c fun _ _ => by simp only [Rq]
theorem gr_bl {b : Bool} : Gr K M0 H0 σ (tC (.bl b)) (.bool b) := gr_c fun _ _ => by simp only [Rq]
theorem gr_int {i : Int} : Gr K M0 H0 σ (tC (.int i)) (.int i) := gr_c fun _ _ => by simp only [Rq]
theorem gr_str {s : Str} : Gr K M0 H0 σ (tC (.str s)) (.str s) := gr_c fun _ _ => by simp only [Rq]
theorem gr_v {i : Nat} {v : V} {d : PyData} (e : σ[i]? = some (some v)) (h : Rq K M0 H0 d v) : Gr K M0 H0 σ (tVar i) d := fun M H Q hM g q =>
  ⟨v, e, q v H (Go.refl _ _) (Rq.go g.wide d v (Rq.wide (fun a ha => (hM a ha).2) d v h))⟩
theorem grA_nil : GrA K M0 H0 σ tNil [] := fun M H Q _ _ q => q [] H (Go.refl _ _) (by simp only [RqA])
theorem grA_cons {te : TE} {ta : TA} {d : PyData} {ds : List PyData} (h : Gr K M0 H0 σ te d) (h' : GrA K M0 H0 σ ta ds) : GrA K M0 H0 σ (tCons te ta) (d :: ds) := fun M H Q hM g q => by
  refine h M H _ hM g fun v H1 g1 r1 => h' M H1 _ (nMr hM g1) (g.trans g1) fun vs H2 g2 r2 => q _ _ (g1.trans g2) ?_
  simp only [RqA]
  exact ⟨v, vs, rfl, Rq.go g2.wide d v r1, r2⟩
theorem gr_tup {ta : TA} {ds : List PyData} (h : GrA K M0 H0 σ ta ds) (hl : ds.length ≤ 1000) : Gr K M0 H0 σ (tTup ta) (.tuple ds) := fun M H Q hM g q => by
  refine h M H _ hM g fun vs H1 g1 r1 => ⟨by rw [r1.len, sizeLine_eq]; omega, fun p hp => q _ _ (g1.trans (Go.new hp)) ?_⟩
  simp only [Rq]
  exact ⟨p, vs, rfl, SqT.of upd_same, RqA.go (Go.new hp) ds vs r1⟩
theorem gr_lst {ta : TA} {ds : List PyData} (h : GrA K M0 H0 σ ta ds) (hl : ds.length ≤ 1000) : Gr K M0 H0 σ (tLstS ta) (.list ds) := fun M H Q hM g q => by
  refine h M H _ hM g fun vs H1 g1 r1 => ⟨by rw [r1.len, sizeLine_eq]; omega, fun p hp hs => q _ _ (g1.trans (Go.new hp)) ?_⟩
  simp only [Rq]
  exact ⟨p, vs, rfl, fun z => (nMr hM g1 p z).1 hp, hs, upd_same, RqA.go (Go.new hp) ds vs r1⟩
theorem gr_d0 : Gr K M0 H0 σ tDNewK (.dict []) := fun M H Q hM g q p hp => by
  refine q _ _ (Go.new hp) ?_
  simp only [Rq]
  exact ⟨p, [], rfl, fun z => (hM p z).1 hp, upd_same, by simp only [RqK]⟩
theorem gr_d1 {te : TE} {k : Str} {d : PyData} (h : Gr K M0 H0 σ te d) : Gr K M0 H0 σ (tDisp [(tC (.str k), te)]) (.dict [(.str k, d)]) := fun M H Q hM g q p hp => by
  show tC (.str k) σ (upd H p (.dK [])) _
  refine h (p :: M) _ _ (fun a ha => ?_) (g.trans (Go.new hp)) fun v H2 g2 r2 => ?_
  · rcases List.mem_cons.mp ha with z | z
    · subst z
      rw [upd_same]
      exact ⟨by simp, .inr (g.free (by simp) hp)⟩
    · rw [upd_ne (fun e => (hM a z).1 (by rw [e]; exact hp))]
      exact hM a z
  · have hpd : H2 p = some (.dK []) := g2.old p _ (by simp) upd_same
    refine ⟨hpd, [(.inr k, v)], rfl, by simp, ?_⟩
    have g3 : Go [p] H2 (upd H2 p (.dK (mergeK [] [(.inr k, v)]))) := Go.put hpd rfl (List.Mem.head _)
    refine q _ _ ⟨fun b o hb e => ?_, fun b o hb e => ?_⟩ ?_
    · rw [upd_ne (ne_of_none e hp)]
      exact g2.old b o (by simp) (by rw [upd_ne (ne_of_none e hp)]; exact e)
    · rw [upd_ne (ne_of_none e hp)]
      exact g2.old b o (by simp) (by rw [upd_ne (ne_of_none e hp)]; exact e)
    · simp only [Rq]
      refine ⟨p, _, rfl, fun z => (hM p z).1 hp, upd_same, ?_⟩
      show RqK K M _ [(.str k, d)] [(.inr k, v)]
      simp only [RqK]
      exact ⟨k, v, [], rfl, rfl, Rq.sub (fun a ha => List.mem_cons_of_mem _ ha) d v (Rq.go (g3.mono fun b hb => by simpa using Or.inl (List.mem_singleton.mp hb)) d v r2), rfl⟩
end
/-- data that show in not too many signs -/
structure Sz (n : Nat) (d : PyData) : Prop where
  sh : d.showable = true
  ln : d.shown.length ≤ 60 + 10 * n
  dp : d.depth ≤ 3 + n
def szB (d : PyData) : Bool := d.showable && (decide (d.shown.length ≤ 60) && decide (d.depth ≤ 3))
theorem sz_of {d : PyData} (h : szB d = true) : Sz 0 d := by
  unfold szB at h
  simp only [Bool.and_eq_true, decide_eq_true_eq] at h
  exact ⟨h.1, by simpa using h.2.1, by simpa using h.2.2⟩
theorem Sz.tup {n : Nat} {d : PyData} (h : Sz n d) : Sz (n + 1) (.tuple [d]) := by
  obtain ⟨h1, h2, h3⟩ := h
  refine ⟨by simp [PyData.showable, PyData.showableAll, h1], ?_, ?_⟩
  · simp only [PyData.shown, PyData.shownAll]
    show (("(" : Str) ++ d.shown ++ (",)" : Str)).length ≤ _
    rw [strLen_append, strLen_append]
    have e1 : ("(" : Str).length = 1 := rfl
    have e2 : (",)" : Str).length = 2 := rfl
    omega
  · simp only [PyData.depth, PyData.depthAll]
    omega
theorem Sz.lst {n : Nat} {d : PyData} (h : Sz n d) : Sz (n + 1) (.list [d]) := by
  obtain ⟨h1, h2, h3⟩ := h
  refine ⟨by simp [PyData.showable, PyData.showableAll, h1], ?_, ?_⟩
  · simp only [PyData.shown, PyData.shownAll]
    show (("[" : Str) ++ ("" : Str) ++ d.shown ++ ("]" : Str)).length ≤ _
    rw [strLen_append, strLen_append, strLen_append]
    have e1 : ("[" : Str).length = 1 := rfl
    have e2 : ("]" : Str).length = 1 := rfl
    have e3 : ("" : Str).length = 0 := rfl
    omega
  · simp only [PyData.depth, PyData.depthAll]
    omega
theorem Sz.dic {n : Nat} {d : PyData} (h : Sz n d) : Sz (n + 1) (.dict [(.str "a", d)]) := by
  obtain ⟨h1, h2, h3⟩ := h
  refine ⟨by simp [PyData.showable, PyData.showableKv, h1], ?_, ?_⟩
  · simp only [PyData.shown, PyData.shownKv]
    show (("{" : Str) ++ (reprText "a" ++ ": " ++ d.shown) ++ ("}" : Str)).length ≤ _
    rw [strLen_append, strLen_append, strLen_append, strLen_append]
    have e1 : ("{" : Str).length = 1 := rfl
    have e2 : ("}" : Str).length = 1 := rfl
    have e3 : (": " : Str).length = 2 := rfl
    have e4 : (reprText "a").length = 3 := by decide +kernel
    omega
  · simp only [PyData.depth, PyData.depthKv]
    omega
theorem Sz.two {n : Nat} {d : PyData} (h : Sz n d) : Sz (n + 1) (.tuple [d, .int 0]) := by
  obtain ⟨h1, h2, h3⟩ := h
  refine ⟨by simp [PyData.showable, PyData.showableAll, h1], ?_, ?_⟩
  · simp only [PyData.shown, PyData.shownAll]
    show (("(" : Str) ++ (d.shown ++ ", " ++ PyData.shown (.int 0)) ++ (")" : Str)).length ≤ _
    rw [strLen_append, strLen_append, strLen_append, strLen_append]
    have e1 : ("(" : Str).length = 1 := rfl
    have e2 : (")" : Str).length = 1 := rfl
    have e3 : (", " : Str).length = 2 := rfl
    have e4 : (PyData.shown (.int 0)).length = 1 := by decide +kernel
    omega
  · simp only [PyData.depth, PyData.depthAll]
    omega

/-! ### isinstance of them -/
def isaT (T : String) (d : PyData) : Option Bool := if T = "tuple" then some d.isTuple else if T = "str" then some d.isStr else if T = "int" then some d.isInt else if T = "bool" then some d.isBool else none
def rIsQ (K : PySem.W.Frag) (M : List Addr) : List V → Hp → VK → Prop := fun xs H Q => ∃ v d T b, xs = [v, .ty T] ∧ Rq K M H d v ∧ isaT T d = some b ∧ Q (.bl b) H
theorem call_isQ {X : Cx} {K : PySem.W.Frag} {M : List Addr} (hK : X.K = K := by rfl) : CallR X (.builtin "isinstance") (rIsQ K M) := by
  subst hK
  intro pins s σ H xs us Q I r h
  obtain ⟨v, d, T, b, rfl, hd, hT, q⟩ := h
  obtain ⟨u1, u2, rfl, r1, r2⟩ := vals2 r
  cases (show u2 = Value.type T from r2)
  obtain ⟨as, rd, _⟩ := Rq.reads I d v u1 hd r1
  unfold isaT at hT
  split at hT
  · next e => subst e; cases hT; exact PySem.W.isinstance_tuple_data rd fun tk l => ⟨.bl _, H, I.tok tk, rfl, q⟩
  · split at hT
    · next e => subst e; cases hT; exact PySem.W.isinstance_str_data rd fun tk l => ⟨.bl _, H, I.tok tk, rfl, q⟩
    · split at hT
      · next e => subst e; cases hT; exact PySem.W.isinstance_int_data rd fun tk l => ⟨.bl _, H, I.tok tk, rfl, q⟩
      · split at hT
        · next e => subst e; cases hT; exact PySem.W.isinstance_bool_data rd fun tk l => ⟨.bl _, H, I.tok tk, rfl, q⟩
        · cases hT
end Sd

/-! D3: data of any kind beside texts: !=, in, not in; a tuple of data beside the empty one -/
namespace PySem.SeqAt
open AutoSeq1 (wpAny_loadPart')
open MeetsSeq
theorem txt_ne_dict (z : Str) (tk : Tok) (a : Addr) (es : Array DictEntry) (n : Nat) (own : Option Addr) (sl : Array (Option Value)) :
    Meets (Builtin.«str.__ne__» ⟨[.str z tk, .ref a], []⟩) (fun _ R s => DictAt s a es n own sl ∧ R (.ok (.ret .notImplemented)) s) := by
  refine .of_wp fun _ _ _ R st both => ?_
  rcases st with ⟨hp, gens, drw, toks, sys⟩
  rcases both with ⟨there, back⟩
  wp_walk using wpAny_loadPart' there, wpAny_load there
  exact ⟨_, rfl, back⟩
theorem dict_ne_txt (a : Addr) (es : Array DictEntry) (n : Nat) (own : Option Addr) (sl : Array (Option Value)) (z : Str) (tk : Tok) :
    Meets (Builtin.«dict.__ne__» ⟨[.ref a, .str z tk], []⟩) (fun _ R s => DictAt s a es n own sl ∧ R (.ok (.ret .notImplemented)) s) := by
  refine .of_wp fun _ _ _ R st both => ?_
  rcases st with ⟨hp, gens, drw, toks, sys⟩
  rcases both with ⟨there, back⟩
  have notSub := F.sub_str_dict
  wp_walk using wpAny_loadPart' there
  exact ⟨_, rfl, back⟩
theorem RcNeAt.dict_str {A : Around} {s : Shared} {a : Addr} {o : Obj} {es : Array DictEntry} {n : Nat} (z : Str) (tk : Tok) (there : s.heap.get? a = some o) (hc : o.cls = .type "dict") (hd : o.data = .dict es n) (room : A.units < cLine) : RcNeAt A s (.ref a) (.str z tk) true := by
  intro prog w E Q done
  rcases o with ⟨cls, own, data, sl⟩
  dsimp only at hc hd
  subst hc hd
  refine rc_ne_decline_or (k := false) ⟨_, there, rfl⟩ (typeIs_str s z tk) (by decide) F.sub_str_dict F.slot_dict_ne F.slot_str_ne_refl ?_ ?_ ?_ (.inr room) done
  · intro R back
    exact call_meets F.slot_dict_ne ⟨_, there, rfl⟩ F.entry_dict_ne (F.args_dict_ne_2 _ _) (dict_ne_txt a es n own sl z tk) ⟨there, back⟩
  · intro R back
    exact call_meets F.slot_str_ne_refl (typeIs_str s z tk) F.entry_str_ne (F.args_str_ne_2 _ _) (txt_ne_dict z tk a es n own sl) ⟨there, back⟩
  · intro R back
    exact wpAny_of_eq (show isSame (.ref a) (.str z tk) = pure false from rfl) back
end PySem.SeqAt
namespace Sd
open PySem PySem.Spec PyProof.Rows L2 LamX PySem.SeqAt
/-- these data are this text -/
def isS : PyData → Str → Bool
  | .str s, z => s == z
  | _, _ => false
theorem isS_eq {d : PyData} {z : Str} (h : isS d z = true) : d = .str z := by
  cases d <;> simp [isS] at h
  rw [h]
section
variable {A : Around} {s : Shared}
/-- d != z -/
theorem ne_str {d : PyData} {v : Value} {as : List Addr} {z : Str} {t : Tok} (r : Reads s.heap v d as) (hu : A.units < cLine) : RcNeAt A s v (.str z t) (!isS d z) := by
  cases r with
  | none => exact RcNeAt.none_str z t
  | bool y => exact RcNeAt.bool_str y z t
  | int y u => exact RcNeAt.int_str y u z t
  | str y u => exact RcNeAt.str_str y u z t
  | list k1 k2 k3 k4 => exact RcNeAt.list_str z t ⟨_, k1, k2, _, k3⟩ hu
  | tuple k1 k2 k3 k4 => exact RcNeAt.tuple_str z t ⟨_, k1, k2, _, k3⟩ hu
  | dict k1 k2 k3 => exact RcNeAt.dict_str z t k1 k2 k3 hu
/-- z == d, for in -/
theorem eq_str {d : PyData} {v : Value} {as : List Addr} {z : Str} {t : Tok} (r : Reads s.heap v d as) (hu : A.units < cLine) : EqAt A s (.str z t) v (isS d z) := by
  cases r with
  | none => exact EqAt.str_none z t
  | bool y => exact EqAt.str_bool z t y
  | int y u => exact EqAt.str_int z t y u
  | str y u =>
    have : isS (.str y) z = (z == y) := by
      show (y == z) = (z == y)
      exact Bool.beq_comm
    rw [this]
    exact EqAt.str_str z t y u
  | list k1 k2 k3 k4 => exact EqAt.str_list z t ⟨_, k1, k2, _, k3⟩ hu
  | tuple k1 k2 k3 k4 => exact EqAt.str_tuple z t ⟨_, k1, k2, _, k3⟩ hu
  | dict k1 k2 k3 => exact EqAt.str_dict z t k1 k2 k3 hu
end
def rNeS (K : PySem.W.Frag) (M : List Addr) : R2 := fun x y H Q => ∃ d z, Rq K M H d x ∧ y = .str z ∧ Q (.bl (!isS d z)) H
theorem op_neS {X : Cx} {K : PySem.W.Frag} {M : List Addr} (hu : X.A.units + 1 < cLine) (hK : X.K = K := by rfl) : OpR X (compareOp .NotEq) (rNeS K M) := by
  subst hK
  intro pins s σ H x y v u Q I rx ry h
  obtain ⟨d, z, hd, rfl, q⟩ := h
  obtain ⟨as, rd, _⟩ := Rq.reads I d x v hd rx
  obtain ⟨t, rfl⟩ := ry
  exact ne_str rd (by omega) _ _ _ _ ⟨.bl _, H, I, rfl, q⟩
/-- x not in a tuple of texts -/
def rInS (neg : Bool) (K : PySem.W.Frag) (M : List Addr) : R2 := fun x y H Q => ∃ (d : PyData) (a : Addr) (zs : List Str), Rq K M H d x ∧ y = .ref a ∧ SqT K H a (zs.map V.str) ∧ Q (.bl (if neg then !(zs.any (isS d)) else zs.any (isS d))) H
def strK (d : PyData) : Value → Bool
  | .str z _ => isS d z
  | _ => false
theorem any_strK {d : PyData} : ∀ {zs : List Str} {us : List Value}, Vals (zs.map V.str) us → us.any (strK d) = zs.any (isS d)
  | [], us, r => by cases r; rfl
  | z :: zs, us, r => by
    cases r with
    | cons r1 r2 =>
      obtain ⟨t, rfl⟩ := r1
      rw [List.any_cons, List.any_cons, any_strK r2]
      rfl
theorem mem_strs {zs : List Str} : ∀ {us : List Value}, Vals (zs.map V.str) us → ∀ y ∈ us, ∃ z t, y = .str z t := by
  induction zs with
  | nil =>
    intro us r y hy
    cases r
    cases hy
  | cons z zs ih =>
    intro us r y hy
    cases r with
    | cons r1 r2 =>
      rcases List.mem_cons.mp hy with e | e
      · obtain ⟨t, h⟩ := r1
        exact ⟨z, t, by rw [e, h]⟩
      · exact ih r2 y e
theorem op_niS {X : Cx} {K : PySem.W.Frag} {M : List Addr} (hu : X.A.units + 2 < cLine) (hK : X.K = K := by rfl) : OpR X (compareOp .NotIn) (rInS true K M) := by
  subst hK
  intro pins s σ H x y v u Q I rx ry h
  obtain ⟨d, a, zs, hd, rfl, hs, q⟩ := h
  obtain ⟨as, rd, _⟩ := Rq.reads I d x v hd rx
  cases (show u = Value.ref a from ry)
  obtain ⟨its, rv, ht, _⟩ := I.tuple hs
  have key : its.toArray.any (strK d) = zs.any (isS d) := by
    rw [← any_strK rv, List.any_toArray]
  refine notIn_tupleAt (strK d) ht (fun y hy => ?_) ?_
  · obtain ⟨z, t, rfl⟩ := mem_strs rv y (by simpa using hy)
    exact eq_str rd (by show X.A.units + 1 < cLine; omega)
  · rw [key]
    exact ⟨.bl _, H, I, rfl, q⟩
/-- a tuple of data beside () -/
def rEqE (neg : Bool) (K : PySem.W.Frag) (M : List Addr) : R2 := fun x y H Q => ∃ ds b, Rq K M H (.tuple ds) x ∧ y = .ref b ∧ SqT K H b [] ∧ Q (.bl (if neg then !ds.isEmpty else ds.isEmpty)) H
theorem tup_of {X : Cx} {pins : List (Addr × Obj)} {σ : L2.St} {H : Hp} {s : Shared} {M : List Addr} {ds : List PyData} {x : V} {v : Value} (I : Inv X pins σ H s) (h : Rq X.K M H (.tuple ds) x) (r : RelV x v) : ∃ a its, v = .ref a ∧ s.heap.IsTuple a its ∧ its.size = ds.length := by
  simp only [Rq] at h
  obtain ⟨a, xs, rfl, ha, hd⟩ := h
  obtain ⟨its, rv, ht, _⟩ := I.tuple ha
  refine ⟨a, its.toArray, r, ht, ?_⟩
  have h1 := rv.length
  have h2 := hd.len
  simp only [List.size_toArray]
  omega
theorem op_eqE {X : Cx} {K : PySem.W.Frag} {M : List Addr} (hu : X.A.units + 1 < cLine) (hK : X.K = K := by rfl) : OpR X (compareOp .Eq) (rEqE false K M) := by
  subst hK
  intro pins s σ H x y v u Q I rx ry h
  obtain ⟨ds, b, hd, rfl, hs, q⟩ := h
  obtain ⟨a, its, rfl, ht, hl⟩ := tup_of I hd rx
  cases (show u = Value.ref b from ry)
  obtain ⟨its2, rv, ht2, _⟩ := I.tuple hs
  cases rv
  have e : ((List.range (min its.size 0)).all (fun _ => true) && its.size == 0) = ds.isEmpty := by
    rw [Nat.min_zero, hl]
    cases ds with
    | nil => rfl
    | cons d ds => simp
  refine RcAt.tuples (e := fun _ => true) ht ht2 (by omega) (fun j h1 h2 => absurd h2 (Nat.not_lt_zero _)) _ _ _ _ ?_
  show ∃ z H', _
  refine ⟨.bl ds.isEmpty, H, I, ?_, q⟩
  show _ = Value.bool _
  exact congrArg Value.bool e
theorem op_neE {X : Cx} {K : PySem.W.Frag} {M : List Addr} (hu : X.A.units + 1 < cLine) (hK : X.K = K := by rfl) : OpR X (compareOp .NotEq) (rEqE true K M) := by
  subst hK
  intro pins s σ H x y v u Q I rx ry h
  obtain ⟨ds, b, hd, rfl, hs, q⟩ := h
  obtain ⟨a, its, rfl, ht, hl⟩ := tup_of I hd rx
  cases (show u = Value.ref b from ry)
  obtain ⟨its2, rv, ht2, _⟩ := I.tuple hs
  cases rv
  have e : (!((List.range (min its.size 0)).all (fun _ => true) && its.size == 0)) = !ds.isEmpty := by
    rw [Nat.min_zero, hl]
    cases ds with
    | nil => rfl
    | cons d ds => simp
  refine RcNeAt.tuples (e := fun _ => true) ht ht2 (by omega) (fun j h1 h2 => absurd h2 (Nat.not_lt_zero _)) _ _ _ _ ?_
  refine ⟨.bl (!ds.isEmpty), H, I, ?_, q⟩
  exact congrArg Value.bool e
end Sd

/-! D4: truth values among ints, texts times an int, list(tuple) apart from sys.modules -/
namespace Sd
open PySem PySem.Spec PyProof.Rows L2 LamX
def b01 (b : Bool) : Int := if b = true then 1 else 0
section
variable {X : Cx}
def rBI (f : Int → Int → Int) : R2 := fun x y H Q => ∃ b j, x = .bl b ∧ y = .int j ∧ Q (.int (f (b01 b) j)) H
theorem op_addBI : OpR X (binaryOp .Add) (rBI fun i j => i + j) := by
  intro pins s σ H x y v u Q I rx ry h
  obtain ⟨b, j, rfl, rfl, q⟩ := h
  cases rx
  obtain ⟨t, rfl⟩ := ry
  exact PySem.IntBool.add_bool_int ⟨.int (b01 b + j), H, I.tok _, ⟨_, rfl⟩, q⟩
theorem op_subBI : OpR X (binaryOp .Sub) (rBI fun i j => i - j) := by
  intro pins s σ H x y v u Q I rx ry h
  obtain ⟨b, j, rfl, rfl, q⟩ := h
  cases rx
  obtain ⟨t, rfl⟩ := ry
  exact PySem.IntBool.sub_bool_int ⟨.int (b01 b - j), H, I.tok _, ⟨_, rfl⟩, q⟩
theorem call_strB : CallR X (.type "str") (fun xs H Q => ∃ b : Bool, xs = [.bl b] ∧ Q (.str (if b then "True" else "False")) H) := by
  intro pins s σ H xs us Q I r h
  obtain ⟨b, rfl, q⟩ := h
  obtain ⟨u, rfl, rx⟩ := vals1 r
  cases rx
  exact PySem.P.str_of_bool ⟨.str _, H, I.tok _, ⟨_, rfl⟩, q⟩
/-- x * n, a short text -/
def repS (x : Str) (n : Nat) : Str := ⟨(List.replicate n x.cps).foldl (· ++ ·) #[]⟩
def rMulS : R2 := fun x y H Q => ∃ (s : Str) (n : Nat), x = .str s ∧ y = .int (n : Int) ∧ 2 ≤ n ∧ n ≤ 100 ∧ s.length ≤ 100000 ∧ ∀ z : Str, z = (if s.length = 0 then s else repS s n) → Q (.str z) H
theorem rep_size (a : Array Nat) : ∀ (n : Nat) (acc : Array Nat), ((List.replicate n a).foldl (· ++ ·) acc).size = acc.size + n * a.size
  | 0, acc => by simp
  | n + 1, acc => by
    rw [List.replicate_succ, List.foldl_cons, rep_size a n, Array.size_append, Nat.succ_mul]
    omega
theorem rep_len (x : Str) (n : Nat) : (repS x n).length = n * x.length := by
  show ((List.replicate n x.cps).foldl (· ++ ·) #[]).size = n * x.cps.size
  rw [rep_size]
  simp
theorem rep_mem {x : Str} {P : Nat → Prop} (h : ∀ c ∈ x.cps.toList, P c) (n : Nat) : ∀ c ∈ (repS x n).cps.toList, P c := by
  have a : ∀ (n : Nat) (acc : Array Nat), (∀ c ∈ acc.toList, P c) → ∀ c ∈ ((List.replicate n x.cps).foldl (· ++ ·) acc).toList, P c := by
    intro n
    induction n with
    | zero => exact fun acc h => h
    | succ n ih =>
      intro acc ha
      rw [List.replicate_succ, List.foldl_cons]
      refine ih _ fun c hc => ?_
      rw [Array.toList_append] at hc
      rcases List.mem_append.mp hc with z | z
      · exact ha c z
      · exact h c z
  exact a n #[] fun c hc => nomatch hc
theorem op_mulS : OpR X (binaryOp .Mult) rMulS := by
  intro pins s σ H x y v u Q I rx ry h
  obtain ⟨z, n, rfl, rfl, n2, n100, hz, q⟩ := h
  obtain ⟨t, rfl⟩ := rx
  obtain ⟨t2, rfl⟩ := ry
  have hn : ¬ ((n : Int) < 1) := by omega
  have h1 : ((n : Int) == 1) = false := by
    rw [beq_eq_false_iff_ne]
    omega
  refine PySem.P.mul_str ?_ (fun _ _ => ?_) (fun _ _ => ?_) ?_
  · have a : ¬ ((n : Int) < -(2 ^ 63 : Int)) := by omega
    have b : ¬ ((n : Int) ≥ 2 ^ 63) := by omega
    rw [decide_eq_false a, decide_eq_false b]
    rfl
  · have : ((n : Int)) ≤ 100 := by omega
    have h2 : (100000 : Int) ≤ (2 ^ 63 - 1) / (n : Int) := by
      rw [Int.le_ediv_iff_mul_le (by omega)]
      omega
    omega
  · have : z.length * (n : Int).toNat ≤ 10000000 := by
      rw [Int.toNat_natCast]
      exact Nat.le_trans (Nat.mul_le_mul hz n100) (by decide)
    exact decide_eq_false (by rw [sizeLine_eq]; omega)
  · rw [if_neg hn, h1, Bool.false_or]
    by_cases h0 : z.length = 0
    · rw [if_pos (by simpa using h0)]
      exact ⟨.str z, H, I, ⟨_, rfl⟩, q z (by rw [if_pos h0])⟩
    · rw [if_neg (by simpa using h0)]
      have e : (⟨(List.replicate (n : Int).toNat z.cps).foldl (· ++ ·) #[]⟩ : Str) = repS z n := by rw [Int.toNat_natCast]; rfl
      rw [e]
      refine ⟨?_, .str (repS z n), H, I.tok _, ⟨_, rfl⟩, q _ (by rw [if_neg h0])⟩
      rw [rep_len, sizeLine_eq]
      exact Nat.le_trans (Nat.mul_le_mul n100 hz) (by decide)
theorem gives_neg_bool (b : Bool) : Gives (Builtin.«int.__neg__» ⟨[.bool b], []⟩) (.int (-(if b = true then (1 : Int) else 0))) :=
  .of_wp fun M A E s Q h => by obtain ⟨hp, g, d, tk, os⟩ := s; wp_walk; exact ⟨_, rfl, h⟩
def rNegB (x : V) (H : Hp) (Q : VK) : Prop := ∃ b, x = .bl b ∧ Q (.int (-(b01 b))) H
theorem un_negB : UnR X (unaryOp .USub) rNegB := by
  intro pins s σ H x v Q I rx h
  obtain ⟨b, rfl, q⟩ := h
  cases rx
  exact unaryOp_gives (op := .USub) (typeIs_bool' s b) rfl F.slot_bool_neg F.entry_int_neg (F.args_int_neg_1 _) (gives_neg_bool b) ⟨.int (-(b01 b)), H, I.tok _, ⟨_, rfl⟩, q⟩
end
end Sd

/-! D5: a method called with its one argument by name -/
namespace Sd
open PySem PySem.Spec PyProof.Rows L2 LamX
/-- a method that keeps its promise when its argument is given by name -/
def MtK (c : Wd) (C : Addr) (m key : Str) (k : Nat) (ps : List Str) (sp : Sp) : Prop :=
  ∃ (f : Addr) (fd : FuncData), Cls c.K C ∧ Meth c.K C m f ∧ (∀ a b : Value, bindArgs fd ⟨[a], [(key, b)]⟩ = pure (ps.zip [a, b])) ∧ FnOk c.P c.w c.K c.mg c.base (L2.CX c.P c.w) k f fd ps sp
theorem mtk_of {c : Wd} {m qual key : Str} {C : Addr} {st : Stmt} {N ps : List Str} {k : Nat} {sp : Sp} (F : MtAt c C m qual st ps) (S : FnScope N ps (defScope st))
    (hb : ∀ (kV doc pm cdv ct : Value) (an : Option Addr) (a b : Value), bindArgs (PySem.W.fnOf m qual (defArgs st) (defBody st) (defScope st) .none kV doc pm an cdv ct) ⟨[a], [(key, b)]⟩ = pure (ps.zip [a, b]))
    (len : ∀ vs H Q E, sp vs H Q E → vs.length = ps.length)
    (h : ∀ (f : Addr) (cdv : Value) (A : Around) (out : List Env) (s : Shared) (H : Hp) (vs : List V) (Q : VK) (E : XK), Room k (A.deeper (envOfC qual (defScope st) s.heap.objs.size f cdv)) → sp vs H Q E →
      ∃ t, PSs (cxN c N qual st f cdv A out s H E).nox (defBody st) t ∧ t { nx := fun _ H' => Q .non H', rt := Q } (L2.start N vs) H) : MtK c C m key (k + 1) ps sp := by
  obtain ⟨f, fd, h1, h3, h4⟩ := F.ex
  refine ⟨f, fd, F.cls, h1, ?_, h3.okX S len fun cdv A out s H vs Q E hr q => ?_⟩
  · obtain ⟨oc, od, kV, doc, pm, an, cdv, ct, osl, rfl, _, _⟩ := h3.ex
    exact fun a b => hb kV doc pm cdv ct an a b
  · obtain ⟨t, a, b⟩ := h f cdv A out s H vs Q E hr q
    exact ⟨t, a.nox, b⟩
def tMethK (C : Addr) (m : Str) (sp : Sp) (E : XK) (ta te : TE) : TE := fun σ H Q => ta σ H fun x H1 => ∃ a dx fs, x = .ref a ∧ H1 a = some (.ins C dx fs) ∧ fs.lookup m = none ∧ te σ H1 fun z H2 => sp [x, z] H2 Q E
theorem pe_mtK {X : Cx} {c : Wd} {C : Addr} {m key : Str} {k : Nat} {ps : List Str} {sp : Sp} {pos apos kpos : Pos} {o e : Expr} {ta te : TE} {pl : Sem Bool} (D : MtK c C m key k ps sp) (hr : Room k X.A) (he : PE X o ta) (ha : PE X e te) (hc : Of X c := by exact ⟨rfl, rfl, rfl, rfl, rfl⟩)
    (hall : (backToKw pos (keywordEach [⟨some key, e, kpos⟩] X.env)).all (·.1.isSome) = true := by rfl) (hks : (backToKw pos (keywordEach [⟨some key, e, kpos⟩] X.env)).filterMap (·.1) = [key] := by rfl)
    (hpl : ((backTo pos (starEach [] X.env)).any (·.1) || (backToKw pos (keywordEach [⟨some key, e, kpos⟩] X.env)).any (·.1.isNone)) = false := by rfl)
    (ht : eval (.Call (.Attribute o m apos) [] [⟨some key, e, kpos⟩] pos) X.env = (do let recv ← eval o X.env; standAt apos.atName; let (g, self1) ← holding [recv] (getMethod recv m pl); callWith pos g self1 (backTo pos (starEach [] X.env)) (backToKw pos (keywordEach [⟨some key, e, kpos⟩] X.env))) := by rfl) :
    PE X (.Call (.Attribute o m apos) [] [⟨some key, e, kpos⟩] pos) (tMethK C m sp E0 ta te) := by
  obtain ⟨f, fd, h1, h2, h3, h4⟩ := D
  obtain ⟨c1, c2, c3, c4, c5⟩ := hc
  obtain ⟨P, w, K, mg, base⟩ := c
  dsimp only at c1 c2 c3 c4 c5
  subst c1 c2 c3 c4 c5
  have hbn : KBn X.K fd ps 1 [key] (fun us ws => us ++ ws) (fun vs zs => vs ++ zs) := by
    refine ⟨fun s us ws _ l1 l2 => ?_, fun r rz => r.append rz⟩
    match us, ws, l1, l2 with
    | [a], [b], _, _ => exact .of_eq (h3 a b)
  constructor
  intro pins s σ H Q I h
  have own := he.run pins s σ H _ I h
  refine PySem.W.methodCall_KW (pl := pl) (thn own ?_) ht
  rintro u s1 ⟨x, H1, I1, rx, a, dx, fs, rfl, at_, none_, q⟩
  cases (show u = Value.ref a from rx)
  apply getmeth_ok I1 at_ h1 h2 none_
  refine PySem.W.callWith_KW0 (h₀ := X.base) I.ok.mod.kin h2.kp hall ?_ hpl (first := [.ref a])
  have hkw : PK X [⟨some key, e, kpos⟩] (tCons te tNil) := pk_cons ha pk_nil
  refine thn (hkw.run pos pins s1 σ H1 (fun zs H2 => match zs with | [z] => sp [.ref a, z] H2 Q E0 | _ => False) I1 q) fun ws s2 ⟨zs, H2, I2, rz, q2⟩ => ⟨I2.kIn, ?_⟩
  rw [hks]
  match zs, q2, rz with
  | [z], q2, rz => exact run_fnN (us := [.ref a]) (vs := [.ref a]) h4 hr hbn passL I2 (.cons rfl .nil) rz rfl rfl q2
  | [], q2, _ => exact q2.elim
  | _ :: _ :: _, q2, _ => exact q2.elim
end Sd

/-! D6: rules joined for values of any kind; list(tuple) apart from sys.modules -/
namespace Sd
open PySem PySem.Spec PyProof.Rows L2 LamX
section
variable {X : Cx} {K : PySem.W.Frag}
def rLstQ (K : PySem.W.Frag) : List V → Hp → VK → Prop := fun xs H Q => ∃ p ys, xs = [.ref p] ∧ SqT K H p ys ∧ ∀ l, H l = none → (l == sysModules) = false → Q (.ref l) (upd H l (.lst ys))
theorem call_lstQ (hK : X.K = K := by rfl) : CallR X (.type "list") (rLstQ K) := by
  subst hK
  rintro pins s σ H xs us Q I r ⟨p, ys, rfl, hs, q⟩
  obtain ⟨u, rfl, rx⟩ := vals1 r
  cases rx
  have apart : (s.heap.objs.size == sysModules) = false := beq_eq_false_iff_ne.mpr (Nat.ne_of_gt I.big)
  have free := I.hok.fresh (Nat.le_refl s.heap.objs.size)
  obtain ⟨its, rv, ⟨o, ho, hc, n, hd⟩, z⟩ := I.tuple hs
  have zl := rv.length
  refine call_list_seq p (.inr rfl) ho hc hd (fun h' cp keeps got => ?_) (by rw [List.size_toArray]; omega)
  have laid := I.laid (t' := s.toks) keeps (Nat.le_refl _) (show ObjOk X.prog X.w _ h' _ (.lst ys) from ⟨z, its, cp, rv, got⟩)
  exact ⟨.ref s.heap.objs.size, _, laid, rfl, q _ free apart⟩
def rAddQ (K : PySem.W.Frag) : R2 := fun x y H Q => rAddU K x y H Q ∨ (rBI fun i j => i + j) x y H Q
theorem op_addQ (hK : X.K = K := by rfl) : OpR X (binaryOp .Add) (rAddQ K) := by subst hK; exact L2.OpR.or op_addU op_addBI
def rSubQ : R2 := fun x y H Q => rSubU x y H Q ∨ (rBI fun i j => i - j) x y H Q
theorem op_subQ : OpR X (binaryOp .Sub) rSubQ := L2.OpR.or op_subU op_subBI
def rMulQ2 : R2 := fun x y H Q => rMulU x y H Q ∨ rMulS x y H Q
theorem op_mulQ2 : OpR X (binaryOp .Mult) rMulQ2 := L2.OpR.or op_mulU op_mulS
def rNegQ : V → Hp → VK → Prop := fun x H Q => (∃ i, x = .int i ∧ Q (.int (-i)) H) ∨ rNegB x H Q
theorem un_negQ : UnR X (unaryOp .USub) rNegQ := by
  intro pins s σ H x v Q I rx h
  rcases h with ⟨i, rfl, q⟩ | h
  · obtain ⟨t, rfl⟩ := rx
    exact neg_int ⟨.int (-i), H, I.tok _, ⟨_, rfl⟩, q⟩
  · exact un_negB pins s σ H x v Q I rx h
def rStrQ : List V → Hp → VK → Prop := fun xs H Q => (∃ i, xs = [.int i] ∧ i.natAbs.log2 < 1920 ∧ Q (.str (toString i)) H) ∨ ∃ b : Bool, xs = [.bl b] ∧ Q (.str (if b then "True" else "False")) H
theorem call_strQ : CallR X (.type "str") rStrQ := L2.CallR.or call_str_int call_strB
end
end Sd

/-! D7: a tuple from its end to its begin -/
namespace HT
open PySem PySem.Spec PyProof.Rows
section
variable {prog : Program} {w : World} {A : Around} {E : Value → Shared → Prop} {s : Shared}
theorem back_adjust (n : Nat) : Builtin.Slice.sliceAdjust none none (-1) (n : Int) = ((n : Int) - 1, -1) := rfl
theorem back_places (n : Nat) : Builtin.Slice.slicePlaces ((n : Int) - 1) (-1) (-1) = n := by
  unfold Builtin.Slice.slicePlaces
  have neg : ¬ ((-1 : Int) > 0) := by decide
  rw [if_neg neg]
  have one : (- -1 : Int) = 1 := by decide
  rw [one, Int.ediv_one]
  split <;> omega
theorem fm_congr {α β : Type} {f g : α → Option β} : ∀ {l : List α}, (∀ x ∈ l, f x = g x) → l.filterMap f = l.filterMap g
  | [], _ => rfl
  | x :: l, h => by
    rw [List.filterMap_cons, List.filterMap_cons, h x List.mem_cons_self, fm_congr fun y hy => h y (List.mem_cons_of_mem _ hy)]
theorem back_pick (xs : Array Value) : ((List.range xs.size).filterMap fun (m : Nat) => xs[(((xs.size : Int) - 1) + (m : Int) * (-1)).toNat]?).toArray = xs.toList.reverse.toArray := by
  have e : (List.range xs.size).filterMap (fun (m : Nat) => xs[(((xs.size : Int) - 1) + (m : Int) * (-1)).toNat]?) = ((List.range xs.size).map fun k => xs.size - 1 - k).filterMap (xs[·]?) := by
    rw [List.filterMap_map]
    refine fm_congr fun m hm => ?_
    have := List.mem_range.mp hm
    have at_ : (((xs.size : Int) - 1) + (m : Int) * (-1)).toNat = xs.size - 1 - m := by omega
    rw [at_]
    rfl
  rw [e, PySem.W.krv_range, List.filterMap_reverse, PySem.W.krv_all]
theorem back_applied {sl : Addr} {vl vu vs : Value} {n : Nat} {Q : Int × Int × Nat → Shared → Prop} (hs : s.heap.IsSliceOf sl vl vu vs) (pl : IsPart vl none) (pu : IsPart vu none) (ps : IsPart vs (some (-1)))
    (h : Q ((n : Int) - 1, -1, n) s) : wpAny (model prog w) A (Builtin.Slice.sliceApplied (.ref sl) (pure (n : Int))) Q E s := by
  obtain ⟨ob, at_, cl, dat⟩ := id hs
  unfold Builtin.Slice.sliceApplied Builtin.Slice.sliceFields
  refine wpAny_bind (wpAny_bind (wpAny_field at_ dat (x := vl) rfl ?_))
  refine wpAny_bind (wpAny_field at_ dat (x := vu) rfl ?_)
  refine wpAny_bind (wpAny_field at_ dat (x := vs) rfl (wpAny_pure ?_))
  refine wpAny_bind (slicePart_ ps ?_)
  show wpAny _ _ (if ((-1 : Int) == 0) = true then _ else _) _ _ s
  rw [if_neg (by decide)]
  refine wpAny_bind (slicePart_ pl (wpAny_bind (slicePart_ pu ?_)))
  refine wpAny_bind (wpAny_pure ?_)
  show wpAny _ _ (match Builtin.Slice.sliceAdjust none none (-1) (n : Int) with | (lo, hi) => pure (lo, (-1 : Int), Builtin.Slice.slicePlaces lo hi (-1))) _ _ s
  rw [back_adjust]
  show wpAny _ _ (pure ((n : Int) - 1, (-1 : Int), Builtin.Slice.slicePlaces ((n : Int) - 1) (-1) (-1))) _ _ s
  rw [back_places]
  exact wpAny_pure h
theorem getItem_tuple_back {t sl : Addr} {items : Array Value} {vl vu vs : Value} {Q : Value → Shared → Prop} (ht : IsTup s.heap t items) (hs : s.heap.IsSliceOf sl vl vu vs) (pl : IsPart vl none) (pu : IsPart vu none) (ps : IsPart vs (some (-1)))
    (h : Q (.ref s.heap.objs.size) { s with heap := s.heap.push { cls := .type "tuple", data := .seq items.toList.reverse.toArray } }) (hsz : items.size ≤ sizeLine) : wpAny (model prog w) A (getItem (.ref t) (.ref sl)) Q E s := by
  have fits : sizeOk (.seq items.toList.reverse.toArray) := by
    show items.toList.reverse.toArray.size ≤ sizeLine
    rw [List.size_toArray, List.length_reverse, Array.length_toList]
    exact hsz
  obtain ⟨ob, at_, cl, dat⟩ := id hs
  have isSl : s.TypeIs (.ref sl) "slice" := ⟨ob, at_, cl⟩
  have get := ht.typeIs
  unfold getItem
  try with_reducible apply wpAny_holding
  first | refine wpAny_bind (wpAny_pure ?_) | skip
  refine wpAny_bind (wpAny_sequenceKey get (by decide) ?_)
  refine wpAny_bind (wpAny_callSpecial?_slot (name := Str.ofString "__getitem__") get PyProof.Rows.slot_tuple_getitem (wpAny_call_entry PyProof.Rows.slot_tuple_getitem get entry_tuple_getitem ?_ (args_tuple_getitem _ _)))
  show wpAny _ _ (Builtin.Tuple.tupleItemsOf (.ref t) >>= _) _ _ s
  refine wpAny_bind (tupleItemsOf_ ht (wpAny_bind (wpAny_typeOf isSl ?_)))
  rw [if_pos (by decide)]
  refine wpAny_bind (back_applied hs pl pu ps ?_)
  have no : ¬ (((items.size : Int) - 1 == 0 && (-1 : Int) == 1 && items.size == items.size) = true) := by
    rw [show ((-1 : Int) == 1) = false from rfl, Bool.and_false, Bool.false_and]
    decide
  show wpAny _ _ (if ((items.size : Int) - 1 == 0 && (-1 : Int) == 1 && items.size == items.size) = true then _ else _) _ _ s
  rw [if_neg no, back_pick]
  first
    | exact wpAny_bind (m := Builtin.Tuple.tupleExact _) (wpAny_newObj_type (wpAny_pure ⟨_, rfl, wpAny_pure h⟩) fits)
    | exact wpAny_bind (m := Builtin.Tuple.tupleExact _) (wpAny_newObj_type (wpAny_bind (wpAny_pure (wpAny_pure ⟨_, rfl, wpAny_pure h⟩))) fits)
    | exact wpAny_bind (wpAny_bind (m := Builtin.Tuple.tupleExact _) (wpAny_newObj_type (wpAny_pure (wpAny_pure ⟨_, rfl, wpAny_pure h⟩)) fits))
    | exact wpAny_bind (wpAny_bind (m := Builtin.Tuple.tupleExact _) (wpAny_newObj_type (wpAny_pure ⟨_, rfl, wpAny_pure h⟩) fits))
end
end HT
namespace Sd
open PySem PySem.Spec PyProof.Rows L2 LamX
def tBackT (K : PySem.W.Frag) (te : TE) : TE := fun σ H Q => te σ H fun x H1 => ∃ a xs, x = .ref a ∧ SqT K H1 a xs ∧ ∀ p, H1 p = none → Q (.ref p) (upd H1 p (.tup xs.reverse))
theorem pe_backT {X : Cx} {K : PySem.W.Frag} {e : Expr} {te : TE} {k : Nat} {a1 a2 a3 pos : Pos} (he : PE X e te) (hK : X.K = K := by rfl) : PE X (.Subscript e (.Slice none none (some (.UnaryOp .USub (.Constant (.int 1) k a1) a2)) a3) pos) (tBackT K te) := by
  subst hK
  constructor
  rintro pins s σ H Q I h
  have step : PO X (some (.UnaryOp .USub (.Constant (.int 1) k a1) a2)) (tPart (tUn (rU fun i => .int (-i)) (tC (.int 1)))) := po_some (pe_un un_neg pe_int)
  apply Subscript_
  refine thn (he.run pins s σ H _ I h) ?_
  rintro v s1 ⟨x, H1, I1, r1, a, xs, rfl, hx, q⟩
  cases r1
  apply wpAny_Slice
  refine thn (po_none.run pins s1 σ H1 (fun o G => o = none ∧ G = H1) I1 ⟨rfl, rfl⟩) ?_
  rintro vl s2 ⟨l, H2, I2, pl, rfl, rfl⟩
  refine thn (po_none.run pins s2 σ _ (fun o G => o = none ∧ G = _) I2 ⟨rfl, rfl⟩) ?_
  rintro vu s3 ⟨u, H3, I3, pu, rfl, rfl⟩
  refine thn (step.run pins s3 σ _ (fun o G => o = some (-1) ∧ G = _) I3 ⟨1, rfl, -1, rfl, rfl, rfl⟩) ?_
  rintro vs s4 ⟨o, H4, I4, ps, rfl, rfl⟩
  have I5 := I4.kept (t' := s4.toks) (h' := s4.heap.push { cls := .type "slice", data := .fields #[vl, vu, vs] }) fun b ob z => Heap.get?_push_of_some _ z
  obtain ⟨its, r, ht, hz⟩ := I5.tuple hx
  have hlen := r.length
  show wpAny (model X.prog X.w) X.A (subscriptTail e (.Slice none none (some (.UnaryOp .USub (.Constant (.int 1) k a1) a2)) a3) (.ref a) (.ref s4.heap.objs.size)) (EP X pins σ Q) X.xe { s4 with heap := s4.heap.push { cls := .type "slice", data := .fields #[vl, vu, vs] } }
  refine tail_any (ops := [.ref a, .ref s4.heap.objs.size]) ht.typeIs (PyProof.Rows.slot_tuple_getitem.lookup) ?_ (by with_unfolding_all rfl)
  refine HT.getItem_tuple_back ht (Heap.IsSliceOf.new _ vl vu vs) pl pu ps ?_ (by rw [List.size_toArray]; omega)
  have rev : its.toArray.toList.reverse.toArray = its.reverse.toArray := rfl
  rw [rev]
  refine ⟨.ref _, _, I5.laid (t' := s4.toks) (o := .tup xs.reverse) (fun b ob z => Heap.get?_push_of_some _ z) (Nat.le_refl _) ?_, rfl, q _ (I5.hok.fresh (Nat.le_refl _))⟩
  exact ⟨by rw [List.length_reverse]; exact hz, _, r.reverse, IsTup.new _ _⟩
end Sd

/-! D8: [e for x in ..] whose items stay only apart from some cells; repr of data, wherever they are apart from -/
namespace Sd
open PySem PySem.Spec PyProof.Rows L2 LamX
section
variable {J : It} {n : Nat} {G : Hp → Prop} {Y : Nat → Hp → V → Hp → Prop}
theorem lc_mapD (w : Walk J n G Y) {g : TG} {te : TE} {vs : List Nat} {σ : L2.St} {H1 : Hp} {D : Addr} {Qd : Hp → Prop} (M : List Addr) (Z : Nat → Hp → Prop) (R : Nat → V → Hp → Prop)
    (hy : Yk Y) (hn : n ≤ 100000) (hD : H1 D = none) (hM : ∀ a ∈ M, H1 a ≠ none) (gG : ∀ H, Go M H1 H → G H) (z0 : Z 0 H1) (zm : ∀ i H H', Z i H → (∀ a ∈ M, H' a = H a) → Z i H')
    (rm : ∀ i y H H', Go (D :: M) H H' → R i y H → R i y H')
    (turn : ∀ i x H H' (Fin : V → Hp → Prop), i < n → Go M H1 H → Go [] H H' → (∃ acc, H D = some (.lst acc)) → Z i H → Y i H x H' →
      (∀ y H4, Go M H H4 → Z (i + 1) H4 → R i y H4 → Fin y H4) → g x (wipe σ vs) H' fun σ2 H2 => wipe σ2 vs = wipe σ vs ∧ te σ2 H2 Fin)
    (done : ∀ H ys, Go M H1 H → Z n H → H D = some (.lst ys) → ys.length = n → (∀ (i : Nat) (y : V), ys[i]? = some y → R i y H) → Qd H) :
    ∃ W : Nat → Nat → Hp → Prop, (∃ m, W 0 m (upd H1 D (.lst []))) ∧ ∀ i m H, W i m H →
      (J.stop i H ∧ Qd H) ∨ (J.go i H ∧ ∃ Nx : Hp → Prop, (∀ H', Nx H' → ∃ m', m' < m ∧ W (i + 1) m' H') ∧ ∀ x H', J.yld i H x H' → g x (wipe σ vs) H' fun σ2 H2 => wipe σ2 vs = wipe σ vs ∧ tYes σ2 H2 fun b H3 =>
        if b = true then te σ2 H3 fun y H4 => ∃ acc, H4 D = some (.lst acc) ∧ acc.length < sizeLine ∧ Nx (upd H4 D (.lst (acc ++ [y]))) else Nx H3) := by
  have hDM : D ∉ M := fun h => hM D h hD
  have nM : ∀ {H : Hp} {o : HO}, ∀ a ∈ M, (upd H D o) a = H a := fun a ha => upd_ne fun e => hDM (e ▸ ha)
  refine lc_it w (fun i H => ∃ ys, Go M H1 H ∧ Z i H ∧ H D = some (.lst ys) ∧ ys.length = i ∧ ∀ (k : Nat) (y : V), ys[k]? = some y → R k y H)
    ⟨[], (Go.refl M H1).mut hD, zm 0 H1 _ z0 nM, upd_same, rfl, fun k y e => by simp at e⟩ (fun i H _ ⟨_, g1, _⟩ => gG H g1) ?_ (fun H ⟨ys, g1, z, d, l, r⟩ => done H ys g1 z d l r)
  rintro i x H H' hi ⟨ys, g1, z, d, l, r⟩ y
  refine turn i x H H' _ hi g1 (hy i H x H' y) ⟨_, d⟩ z y ?_
  intro v H4 g4 z4 r4
  have d4 : H4 D = some (.lst ys) := g4.old D _ hDM d
  have gD : Go (D :: M) H4 (upd H4 D (.lst (ys ++ [v]))) := Go.put d4 rfl (List.Mem.head _)
  have g4' : Go (D :: M) H H4 := g4.mono fun a ha => List.mem_cons_of_mem _ ha
  refine ⟨ys, d4, Nat.lt_of_lt_of_le (show ys.length < 100000 by omega) (by decide), ys ++ [v], (g1.trans g4).mut hD, zm _ H4 _ z4 nM, upd_same, by simp [l], ?_⟩
  intro k y' ek
  by_cases hk : k < ys.length
  · rw [List.getElem?_append_left hk] at ek
    exact rm _ _ _ _ gD (rm _ _ _ _ g4' (r k y' ek))
  · have hk2 : k = ys.length := by
      have := (List.getElem?_eq_some_iff.mp ek).1
      simp at this
      omega
    subst hk2
    rw [List.getElem?_append_right (Nat.le_refl _)] at ek
    simp at ek
    subst ek
    rw [l]
    exact rm _ _ _ _ gD r4
end
def rReprE (K : PySem.W.Frag) (A : Around) : List V → Hp → VK → Prop := fun xs H Q => ∃ M, rReprQ K M A xs H Q
theorem call_reprE {X : Cx} {K : PySem.W.Frag} (hG : X.A.guards = some []) (hK : X.K = K := by rfl) : CallR X (.builtin "repr") (rReprE K X.A) := by
  intro pins s σ H xs us Q I r h
  obtain ⟨M, h⟩ := h
  exact call_reprQ (M := M) hG hK pins s σ H xs us Q I r h
def rIsE (K : PySem.W.Frag) : List V → Hp → VK → Prop := fun xs H Q => ∃ M, rIsQ K M xs H Q
theorem call_isE {X : Cx} {K : PySem.W.Frag} (hK : X.K = K := by rfl) : CallR X (.builtin "isinstance") (rIsE K) := by
  intro pins s σ H xs us Q I r h
  obtain ⟨M, h⟩ := h
  exact call_isQ (M := M) hK pins s σ H xs us Q I r h
/-- texts, one behind the other, stand where they stand -/
theorem rqA_strs {K : PySem.W.Frag} {M : List Addr} {H : Hp} : ∀ (zs : List Str), RqA K M H (zs.map PyData.str) (zs.map V.str)
  | [] => by simp only [List.map_nil, RqA]
  | z :: zs => by
    simp only [List.map_cons, RqA, Rq]
    exact ⟨_, _, rfl, rfl, rqA_strs zs⟩
theorem rq_tup {K : PySem.W.Frag} {M : List Addr} {H : Hp} {a : Addr} {zs : List Str} (h : SqT K H a (zs.map V.str)) : Rq K M H (.tuple (zs.map PyData.str)) (.ref a) := by
  simp only [Rq]
  exact ⟨a, _, rfl, h, rqA_strs zs⟩
theorem cut_strs (zs : List Str) (lo hi : Option Int) : ∃ ys : List Str, cutV (zs.map V.str) lo hi = ys.map V.str ∧ ys.length ≤ zs.length ∧ ∀ y ∈ ys, y ∈ zs := by
  unfold cutV
  generalize (HT.sIx (List.map V.str zs).length (List.map V.str zs).length hi - HT.sIx (List.map V.str zs).length 0 lo) = a
  generalize (HT.sIx (List.map V.str zs).length 0 lo) = b
  refine ⟨(zs.drop b).take a, by rw [List.map_take, List.map_drop], ?_, fun y hy => List.mem_of_mem_drop (List.mem_of_mem_take hy)⟩
  rw [List.length_take, List.length_drop]
  omega
/-- data from what stands at each place -/
theorem rqA_of {K : PySem.W.Frag} {M : List Addr} {H : Hp} {P : PyData → Prop} : ∀ {ys : List V}, (∀ (i : Nat) (y : V), ys[i]? = some y → ∃ d, Rq K M H d y ∧ P d) → ∃ ds, RqA K M H ds ys ∧ ∀ d ∈ ds, P d
  | [], _ => ⟨[], by simp only [RqA], fun d h => nomatch h⟩
  | y :: ys, h => by
    obtain ⟨d, h1, h2⟩ := h 0 y rfl
    obtain ⟨ds, h3, h4⟩ := rqA_of (ys := ys) fun i z hz => h (i + 1) z (by simpa using hz)
    refine ⟨d :: ds, ?_, fun e he => ?_⟩
    · simp only [RqA]
      exact ⟨y, ys, rfl, h1, h3⟩
    · rcases List.mem_cons.mp he with z | z
      · rw [z]; exact h2
      · exact h4 e z
end Sd

/-! D9: how often a flat thing stands in a list; list(xs) of a list, apart from sys.modules -/
namespace Sd
open PySem PySem.Spec PyProof.Rows L2 LamX
section
variable {X : Cx} {K : PySem.W.Frag}
def rCountV (K : PySem.W.Frag) : V → List V → Hp → VK → Prop := fun x xs H Q => ∃ (p : Addr) (ys : List V) (y : V), x = .ref p ∧ xs = [y] ∧ SqL K H p ys ∧ flatV y = true ∧ ys.all flatV = true ∧ Q (.int ((ys.countP fun z => eqV z y : Nat) : Int)) H
theorem count_eqU {y : V} : ∀ {ys : List V} {us : List Value}, Vals ys us → ys.all flatV = true → us.countP (eqU y) = ys.countP fun z => eqV z y
  | _, _, .nil, _ => rfl
  | z :: ys, u :: us, .cons r t, f => by
    rw [List.all_cons, Bool.and_eq_true] at f
    rw [List.countP_cons, List.countP_cons, count_eqU t f.2, eqU_of r f.1]
theorem mt_countV : MtR X "list.count" (rCountV X.K) := by
  rintro pins s σ H x xs v us Q I rx rxs ⟨p, ys, y, rfl, rfl, hs, fy, fys, q⟩
  cases rx
  obtain ⟨u, rfl, ru⟩ := rxs.one
  obtain ⟨its, rv, ⟨⟨cls, dd, data, sl⟩, n, ho, hc, hdn, hd⟩, hlen⟩ := I.list hs
  dsimp only at hc hd
  subst hc hd
  refine call_meets PySem.F.slot_list_count ⟨_, ho, rfl⟩ PySem.F.entry_list_count (PySem.F.args_list_count_2 _ _) (SeqAt.list_countAt p its.toArray n dd sl u (eqU y)) ⟨ho, fun w hw => mem_eqAt (x := y) ru fy rv fys w (by simpa using hw), ?_⟩
  refine ⟨.int ((ys.countP fun z => eqV z y : Nat) : Int), H, I.tok _, ⟨s.toks, ?_⟩, q⟩
  have e : its.toArray.toList.countP (eqU y) = ys.countP fun z => eqV z y := count_eqU rv fys
  show Value.int ((its.toArray.toList.countP (eqU y) : Nat) : Int) s.toks = _
  rw [e]
def rLstL (K : PySem.W.Frag) : List V → Hp → VK → Prop := fun xs H Q => ∃ p ys, xs = [.ref p] ∧ SqL K H p ys ∧ ∀ l, H l = none → (l == sysModules) = false → Q (.ref l) (upd H l (.lst ys))
theorem call_lstL (hK : X.K = K := by rfl) : CallR X (.type "list") (rLstL K) := by
  subst hK
  rintro pins s σ H xs us Q I r ⟨p, ys, rfl, hs, q⟩
  obtain ⟨u, rfl, rx⟩ := vals1 r
  cases rx
  have apart : (s.heap.objs.size == sysModules) = false := beq_eq_false_iff_ne.mpr (Nat.ne_of_gt I.big)
  have free := I.hok.fresh (Nat.le_refl s.heap.objs.size)
  obtain ⟨its, rv, ⟨o, n, ho, hc, hdn, hd⟩, z⟩ := I.list hs
  have zl := rv.length
  refine call_list_seq p (.inl rfl) ho hc hd (fun h' cp keeps got => ?_) (by rw [List.size_toArray]; omega)
  have laid := I.laid (t' := s.toks) keeps (Nat.le_refl _) (show ObjOk X.prog X.w _ h' _ (.lst ys) from ⟨z, its, cp, rv, got⟩)
  exact ⟨.ref s.heap.objs.size, _, laid, rfl, q _ free apart⟩
def rLstW (K : PySem.W.Frag) : List V → Hp → VK → Prop := fun xs H Q => rLstQ K xs H Q ∨ rLstL K xs H Q
theorem call_lstW (hK : X.K = K := by rfl) : CallR X (.type "list") (rLstW K) := L2.CallR.or (call_lstQ hK) (call_lstL hK)
end
end Sd

/-! X1: an exception of the text raised with its value; caught, and kept beyond the suite -/
namespace Sd
open PySem PySem.Spec PyProof.Rows L2
/-- at a: a caught exception of the class cls, its dict at d -/
def exq (a : Addr) (cls : Value) (d : Option Addr) : HO := .ext fun h => ∃ (oe : Obj) (vs : Array Value), h.get? a = some oe ∧ Zc cls d oe ∧ oe.data = .fields vs
theorem exq_ok {P : Program} {w : World} {H : Hp} {h : Heap} {a : Addr} {cls : Value} {d : Option Addr} {oe : Obj} {vs : Array Value} (e : h.get? a = some oe) (z : Zc cls d oe) (k : oe.data = .fields vs) : ObjOk P w H h a (exq a cls d) :=
  ⟨⟨oe, vs, e, z, k⟩, ⟨oe, e⟩, fun h1 h2 ⟨o, v, q, r⟩ kp => ⟨o, v, kp o q, r⟩⟩
section
variable {X : Cx} {pins : List (Addr × Obj)} {σ : L2.St} {H : Hp} {s : Shared}
/-- an object that stands in the heap, new since the frame's begin, is told from here on -/
theorem Inv.told {a : Addr} {oe : Obj} {vs : Array Value} {cls : Value} {d : Option Addr} (I : Inv X pins σ H s) (hx : X.ex = []) (new : X.s_0.heap.get? a = none) (na : H a = none) (e : s.heap.get? a = some oe) (z : Zc cls d oe) (k : oe.data = .fields vs)
    (nL : a ≠ X.env.locals) (np : ∀ p ∈ X.pn ++ pins, p.1 ≠ a) : Inv X pins σ (upd H a (exq a cls d)) s := by
  have old : ∀ b o, X.s_0.heap.get? b = some o → b ≠ a := fun b o q y => by
    rw [y, new] at q
    cases q
  have cellNe : ∀ x c, X.env.cells.lookup x = some c → c ≠ a := fun x c q y => by
    obtain ⟨v, o, h1, h2⟩ := I.cell x c q
    rw [y, e] at h1
    cases h1
    rw [k] at h2
    cases h2
  refine ⟨I.ok, I.os, I.bare, ⟨I.base.keep, I.base.slot, fun b o q n hq => ?_, I.base.there, fun b xs q => ?_, fun b o u q => ?_, fun b ps q => ?_⟩, I.loc, I.cell, ?_, fun x c q => ?_, fun p hp => ?_, ?_, I.len⟩
  · rw [upd_ne (old b o q)]
    exact I.base.free b o q n hq
  · have t := I.base.tups b xs q
    rw [upd_ne (fun y => by rw [y, na] at t; cases t)]
    exact t
  · have t := I.base.frzs b o u q
    rw [upd_ne (fun y => by rw [y, na] at t; cases t)]
    exact t
  · obtain ⟨m, t⟩ := I.base.tbls b ps q
    exact ⟨m, by rw [upd_ne (fun y => by rw [y, na] at t; cases t)]; exact t⟩
  · rw [upd_ne (Ne.symm nL)]
    exact I.free
  · rw [upd_ne (cellNe x c q)]
    exact I.freeC x c q
  · obtain ⟨h1, h2, h3⟩ := I.pin p hp
    exact ⟨h1, by rw [upd_ne (np p hp)]; exact h2, h3⟩
  · exact I.hok.laidN (fun b u q => q) na (exq_ok e z k)
/-- what the clause wishes of an exception of the body, where the suite lets it stay -/
def wKp (K : PySem.W.Frag) (c : Value) (i : Nat) (ts : Addr → Value → Option Addr → TS) (D : Ends) : WX := fun cls d σ H =>
  PySem.W.exmOne K cls c = some true ∧ ∀ a, H a = none → ts a cls d { nx := fun σ' H' => D.nx (σ'.set i none) (upd H' a (exq a cls d)), rt := fun _ _ => False, bk := fun _ _ => False, ct := fun _ _ => False } (σ.set i (some (.ref a))) H
theorem ps_try_keep {x n : Str} {c : Value} {i : Nat} {body suite : List Stmt} {b0 : Stmt} {np pos pos' : Pos} {tb : WX → TS} {ts : Addr → Value → Option Addr → TS} (hs : X.stack = X.env :: X.outer) (hf : X.env.frame = some X.env.locals) (hex : X.ex = [])
    (hN : X.N.Nodup) (hi : X.N[i]? = some n) (hln : X.env.kindOf n = some .local) (hc : Names X x c)
    (hb : ∀ (W : WX) (pn : List (Addr × Obj)) (xe : Value → Shared → Prop), Takes (X.tr pn xe) W → PassesOwn (model X.prog X.w) X.A X.env xe → PSs (X.tr pn xe) body (tb W))
    (hsu : ∀ (a : Addr) (oe : Obj) (cls : Value) (d : Option Addr) (pn : List (Addr × Obj)), Zc cls d oe → (∃ vs, oe.data = .fields vs) → PSs (X.suite a ((a, oe) :: pn)) (b0 :: suite) (ts a cls d)) :
    PS X (.Try body [.ExceptHandler (some (.Name x np)) (some n) (b0 :: suite) pos'] [] [] pos) (fun D σ H => tb (wKp X.K c i ts D) D σ H) := by
  constructor
  intro pins s σ H D I h
  have frames : X.A.frames = some (X.env :: X.outer) := by
    rw [I.ok.frames, hs]
  apply wpAny_Try_except
  refine wpAny_mono ((hb (wKp X.K c i ts D) (X.pn ++ pins) _ ?_ PassesOwn.looking).run [] s σ H D (I.toTry _) h) ?_ fun e s1 he => he
  · rintro u s' ⟨a, B, sI, pins', σ', H', cls, d, rfl, J0, nb, up, sky, na, os, ag, hyes, go⟩
    have J : Inv X pins σ' H' sI := J0.ofTry I.ok
    have ground : B.get? a = none := by
      rcases sky with y | y | y
      · exact y.2.1
      · exact y.2.1
      · exact y.2.1
    have sky2 : Sky B (X.env :: X.outer) a (Zc cls d) X.env.locals s'.heap := by
      rw [← hs]
      exact sky
    show wpAny _ X.A (noteFrame (.ref a) X.env) _ _ _
    refine Sky.land Zc.steady frames hf sky2 fun g fly upg => ?_
    have onward : ∀ {g'}, B.StaysIn g' → s'.heap.UpToSlots g' → Inv X pins σ' H' { s' with heap := g' } := fun st u => J.landed nb st (up.trans u) os ag
    obtain ⟨o1, v1, at1, zc1, fd1⟩ := fly.there
    have off : a ∉ frs (X.env :: X.outer) := fun y => by
      obtain ⟨_, o, q, w⟩ := fly.2.2.1.mem y
      rw [at1] at q
      cases q
      exact w _ fd1
    have offL : a ≠ X.env.locals := fun y => off (List.mem_filterMap.mpr ⟨X.env, List.mem_cons_self, by rw [hf, y]⟩)
    have offF : a ∉ X.fs := fun y => by
      obtain ⟨e, m, q⟩ := List.mem_filterMap.mp y
      exact off (List.mem_filterMap.mpr ⟨e, List.mem_cons_of_mem _ m, q⟩)
    have gone : ∀ o, sI.heap.get? a ≠ some o := fun o y => by
      have := nb a o y (by rw [hs]; exact off)
      rw [ground] at this
      cases this
    have newer : X.s_0.heap.get? a = none := by
      cases y : X.s_0.heap.get? a with
      | none => rfl
      | some o =>
        obtain ⟨o', q⟩ := J.base.there a o y (by rw [hex]; exact fun z => nomatch z)
        exact absurd q (gone o')
    have apart : ∀ p ∈ X.pn ++ pins, p.1 ≠ a := fun p hp y => by
      have := (J.pin p hp).1
      rw [y] at this
      exact gone _ this
    have T1 := (onward fly.1 upg).suite at1 fd1 na offL offF
    refine wpAny_handleBy_cons (codeAny_handlers_test ?_) (fun q => nomatch q)
    have yes := PySem.W.exm_one (M := model X.prog X.w) (onward fly.1 upg).kIn (fun A Q E s k q => wpAny_typeOf_ref (k _ _ at1) (by rw [zc1.1]; exact q)) hyes
    have named : ∀ {Q : Value → Shared → Prop} {E : Value → Shared → Prop}, Q c { s' with heap := g } → wpAny (model X.prog X.w) (X.A.mark (some (.ref a))) (eval (.Name x np) X.env) Q E { s' with heap := g } := by
      intro Q E q
      rcases hc with ⟨hg, hd, y | ⟨y1, y2, y3⟩⟩
      · exact ld_glob (X := X.suite a ((a, o1) :: (X.pn ++ pins))) T1 hg y q hd
      · exact ld_blt (X := X.suite a ((a, o1) :: (X.pn ++ pins))) T1 hg y1 y2 q y3 hd
    apply named
    apply yes.here
    apply codeAny_handlers_suite_as
    refine HandSPX.lands_againZ fly fun g2 fly2 upg2 => ?_
    obtain ⟨o2, v2, at2, zc2, fd2⟩ := fly2.there
    have T2 := (onward fly2.1 (upg.trans upg2)).suite at2 fd2 na offL offF
    refine store_ok (X := X.suite a ((a, o2) :: (X.pn ++ pins))) (v := .ref a) T2 hN hi (.inl hln) rfl (fun s5 T5 => ?_) (.inr hln)
    refine wpAny_mono ((hsu a o2 cls d (X.pn ++ pins) zc2 ⟨_, fd2⟩).run [] s5 _ H' _ T5 (go a na)) ?_ fun _ _ z => z.elim
    intro f s6 q6
    cases f with
    | next =>
      obtain ⟨σ6, H6, T6, q7⟩ := q6
      refine gone_ok (X := X.suite a ((a, o2) :: (X.pn ++ pins))) T6 hN hi hln fun s7 T7 => ?_
      obtain ⟨p1, p2, _⟩ := T7.pin (a, o2) (by simp)
      exact ⟨_, _, Inv.told (T7.unsuite I.ok) hex newer p2 p1 zc2 fd2 offL apart, q7⟩
    | brk =>
      obtain ⟨σ6, H6, T6, q7⟩ := q6
      exact q7.elim
    | cont =>
      obtain ⟨σ6, H6, T6, q7⟩ := q6
      exact q7.elim
    | ret u =>
      obtain ⟨v6, σ6, H6, T6, r6, q7⟩ := q6
      exact q7.elim
  · intro f s1 q
    cases f with
    | next =>
      obtain ⟨σ', H', J, w⟩ := q
      exact wpAny_execs_nil ⟨σ', H', J.ofTry I.ok, w⟩
    | brk =>
      obtain ⟨σ', H', J, w⟩ := q
      exact ⟨σ', H', J.ofTry I.ok, w⟩
    | cont =>
      obtain ⟨σ', H', J, w⟩ := q
      exact ⟨σ', H', J.ofTry I.ok, w⟩
    | ret u =>
      obtain ⟨v, σ', H', J, r, w⟩ := q
      exact ⟨v, σ', H', J.ofTry I.ok, r, w⟩
end
end Sd

/-! X2: the error classes of the text, raised with a value, told apart, and their value read again -/
namespace Sd
open PySem PySem.Spec PyProof.Rows L2
/-- what is known of one of the error classes at C -/
structure Cl (K : PySem.W.Frag) (fI C : Addr) : Prop where
  oex : OexC K C
  exc : ExcC K C
  xf : XfC K C
  noV : PySem.W.findIn K (.ref C) "value" = some none
  ini : PySem.W.findIn K (.ref C) "__init__" = some (some (.ref fI))
/-- the same as one test, but for the object itself -/
def clB (K : PySem.W.Frag) (fI C : Addr) : Bool :=
  decide (PySem.W.findIn K (.ref C) "__setattr__" = some (some (.builtin "object.__setattr__"))) && (decide (PySem.W.subIn K (.ref C) (.type "BaseException") = some true) && (decide (PySem.W.typeIn K (.ref C) = some (.type "type")) && (PySem.W.keepIn K (.ref C) &&
  (decide (PySem.W.findIn K (.ref C) "__getattribute__" = some (some (.builtin "BaseException.__getattribute__"))) && (decide (PySem.W.findIn K (.ref C) "__getattr__" = some none) && (PySem.W.hasDictIn K C && (decide (PySem.W.findIn K (.ref C) "__class__" = some (some (.builtin "object.__class__"))) &&
  (decide (PySem.W.mroIn K C (.type "object") = some true) && (decide (PySem.W.findIn K (.ref C) "value" = some none) && decide (PySem.W.findIn K (.ref C) "__init__" = some (some (.ref fI))))))))))))
/-- the object: a class over ValueError -/
def obB (K : PySem.W.Frag) (C : Addr) : Bool := match K.lookup C with
  | some ⟨.type t, _, .cls cd, sl⟩ => decide (t = "type") && (cd.hasDict && (!cd.hasDel && ((match cd.mro with | .ref D :: bm => decide (D = C) && PySem.HandSPX.refsVE bm | _ => false) && (match sl.toList with | [_, _, _, _, some (.builtin i), _] => decide (i = "ValueError.__new__") | _ => false))))
  | _ => false
theorem obB_ok {K : PySem.W.Frag} {C : Addr} (h : obB K C = true) : ∃ nm q N bs bm sn sub ab col dd k0 k1 k2 k3 k5, K.lookup C = some (excClassObj nm q C N bs bm true sn sub ab col dd k0 k1 k2 k3 k5 "ValueError.__new__") ∧ PySem.HandSPX.refsVE bm = true := by
  unfold obB at h
  split at h
  · rename_i t dd cd sl ho
    obtain ⟨nm, bs, mro, ns, qn, hd, sn, sb, ab, col, dl⟩ := cd
    dsimp only at h
    simp only [Bool.and_eq_true, decide_eq_true_eq, Bool.not_eq_true'] at h
    obtain ⟨rfl, rfl, rfl, h4, h5⟩ := h
    split at h4
    · rename_i D bm
      simp only [Bool.and_eq_true, decide_eq_true_eq] at h4
      obtain ⟨rfl, hb⟩ := h4
      split at h5
      · rename_i k0 k1 k2 k3 i k5 hs
        have hi : i = "ValueError.__new__" := of_decide_eq_true h5
        subst hi
        obtain ⟨sl⟩ := sl
        dsimp only at hs
        subst hs
        exact ⟨nm, qn, ns, bs, bm, sn, sb, ab, col, dd, k0, k1, k2, k3, k5, ho, hb⟩
      · cases h5
    · cases h4
  · cases h
theorem clB_ok {K : PySem.W.Frag} {fI C : Addr} (h : clB K fI C = true) (ho : obB K C = true) (hn : PySem.W.specialIn K (.builtin "object.__class__") "__get__" = some (some (.builtin "getset_descriptor.__get__"))) (ht : PySem.W.takesIn K (.builtin "object.__class__") = some true) : Cl K fI C := by
  unfold clB at h
  simp only [Bool.and_eq_true, decide_eq_true_eq] at h
  obtain ⟨h1, h2, h3, h4, h5, h6, h7, h8, h9, h10, h11⟩ := h
  exact ⟨⟨obB_ok ho, h1, h2, h3, h4⟩, ⟨h5, h6, h2, h7, h8, hn, ht, h9⟩, ⟨h5, h6, h2, h7⟩, h10, h11⟩
/-- the class of this name, where the text leaves it -/
def clAt (K : PySem.W.Frag) (x : Str) : Addr := match PySem.W.nsIn K mainGlobals x with
  | some (some (.ref C)) => C
  | _ => 0
def nmB (K : PySem.W.Frag) (x : Str) : Bool := decide (PySem.W.nsIn K mainGlobals x = some (some (.ref (clAt K x))))
/-- the init of the errors, as the text leaves it -/
structure Ini (c : Wd) (fI : Addr) (fd : FuncData) : Prop where
  ok : FnOk c.P c.w c.K c.mg c.base (L2.CX c.P c.w) 1 fI fd ["self", "value"] (spInit c.K)
  ty : PySem.W.typeIn c.K (.ref fI) = some (.type "function")
  b1 : ∀ (s : Shared) (a : Addr) (us : List Value), us.length + 1 = (["self", "value"] : List Str).length → BindsTo s fd ⟨.ref a :: us, []⟩ ((["self", "value"] : List Str).zip (.ref a :: us))
/-- an error class that is raised -/
structure Er (c : Wd) (x : Str) (C : Addr) : Prop where
  mg : c.mg x = some (.ref C)
  ex : ∃ fI fd, Cl c.K fI C ∧ Ini c fI fd
section
variable {X : Cx} {c : Wd} {x : Str} {C : Addr} {W : WX} {e : Expr} {te : TE} {p pos pos' : Pos}
/-- what makes a new exception and lets it fly -/
theorem pmk_exo (hx : X.ex = []) (he : PE X e te) : PMk X e (fun σ H Q => te σ H fun v H1 => ∃ a D dx, v = .ref a ∧ H1 a = some (exo a D (some dx)) ∧ Fr0 X.H_0 a ∧ Raises X (.ref D) ∧ Q (.ref D) (some dx) (delH H1 a)) := by
  intro pins s σ H Q I h
  refine wpAny_mono (he.run pins s σ H _ I h) ?_ fun _ _ y => y
  rintro u s1 ⟨v, H1, I1, r1, a, D, dx, rfl, ha, h0, hr, q⟩
  cases r1
  obtain ⟨t1, at1⟩ := exo_at I1.hok ha
  obtain ⟨G, g1, g2, J⟩ := I1.untrack ha h0 hx
  exact ⟨a, _, _, { s1 with heap := G }, delH H1 a, .ref D, some dx, rfl, J, g1, g2, at1, ⟨rfl, rfl⟩, rfl, rfl, delH_same, rfl, I1.bare, hr, q⟩
/-- the reading of raise x(v), behind v -/
def kRaise (K : PySem.W.Frag) (X : Cx) (C : Addr) (W : WX) (σ : L2.St) : V → Hp → Prop := fun v H1 => [v].length + 1 = (["self", "value"] : List Str).length ∧ tXmk C (spInit K) (fun _ H Q => Q [v] H) tNil σ H1 fun y H2 => ∃ a D dx, y = .ref a ∧ H2 a = some (exo a D (some dx)) ∧ Fr0 X.H_0 a ∧ Raises X (.ref D) ∧ W (.ref D) (some dx) σ (delH H2 a)
def tRaise (K : PySem.W.Frag) (X : Cx) (C : Addr) (W : WX) (te : TE) : TS := fun _ σ H => te σ H (kRaise K X C W σ)
theorem kRaise_of {fI : Addr} {σ : L2.St} {v : V} {H1 : Hp} (T : Cl c.K fI C) (hc : Of X c) (old : ∀ b, X.H_0 b ≠ none → H1 b ≠ none) (q : ∀ dx, H1 dx = none → W (.ref C) (some dx) σ (upd H1 dx (exd dx [("value", v)]))) : kRaise c.K X C W σ v H1 := by
  refine ⟨rfl, ?_⟩
  show [v].length ≤ 1000 ∧ _
  refine ⟨by show 1 ≤ 1000; decide, fun a ha => ?_⟩
  refine ⟨a, C, v, rfl, T.oex, T.noV, upd_same, fun dx hd hne => ⟨rfl, a, C, dx, rfl, upd_same, ?_, ?_, ?_⟩⟩
  · refine fr0_none ?_
    cases y : X.H_0 a with
    | none => rfl
    | some o => exact absurd ha (old a (by rw [y]; exact fun z => nomatch z))
  · have k := hc.K
    exact raises_own (by rw [k]; exact T.oex.exC) (by rw [k]; exact T.oex.tyC)
  · have hd' : H1 dx = none := by
      rw [upd_ne hne] at hd
      exact hd
    have e : delH (upd (upd (upd H1 a (exo a C none)) dx (exd dx [("value", v)])) a (exo a C (some dx))) a = upd H1 dx (exd dx [("value", v)]) := by
      funext b
      by_cases z : b = a
      · subst z
        rw [delH_same, upd_ne hne.symm, ha]
      · rw [delH_ne z, upd_ne z]
        by_cases z2 : b = dx
        · subst z2
          rw [upd_same, upd_same]
        · rw [upd_ne z2, upd_ne z, upd_ne z2]
    rw [e]
    exact q dx hd'
theorem ps_raiseV (D : Er c x C) (hc : X.calm = true) (hx : X.ex = []) (tk : Takes X W) (hr : Room 2 X.A) (hg : Gl X x) (he : PE X e te) (ho : Of X c := by exact ⟨rfl, rfl, rfl, rfl, rfl⟩)
    (hdb : (x == ("__debug__" : Str)) = false := by decide) (hs : starEach [e] X.env = (false, eval e X.env) :: starEach [] X.env := by rfl) (hpl : (backTo pos (starEach [] X.env)).any (·.1) = false := by rfl) :
    PS X (.Raise (some (.Call (.Name x p) [e] [] pos)) none pos') (tRaise c.K X C W te) := by
  obtain ⟨mg, fI, fd, T, J⟩ := D
  obtain ⟨c1, c2, c3, c4, c5⟩ := ho
  obtain ⟨P, w, K, m, base⟩ := c
  dsimp only at c1 c2 c3 c4 c5
  subst c1 c2 c3 c4 c5
  exact ps_raise hc tk (pmk_exo hx (pe_oex (fd := fd) (k := 1) T.oex T.ini J.ty J.ok hr J.b1 passL hg mg (pa_cons he pa_nil hs) rfl hdb hs hpl))
/-! ### a caught exception -/
theorem exq_inst {pins : List (Addr × Obj)} {σ : L2.St} {H : Hp} {s : Shared} {a D dx : Addr} {fs : List (Str × V)} (I : Inv X pins σ H s) (ha : H a = some (exq a (.ref D) (some dx))) (hd : H dx = some (exd dx fs)) :
    ∃ (oe od : Obj) (mA : Str → Option Value), PySem.W.InstAt s.heap a oe D (some od) ∧ (∃ vs, oe.data = .fields vs) ∧ s.heap.get? dx = some od ∧ s.heap.Ns1 dx mA ∧ ∀ f, RelO (fs.lookup f) (mA f) := by
  obtain ⟨mA, hns, rel⟩ := exd_at I.hok hd
  obtain ⟨od, es, ep, h1, h2⟩ := id hns
  obtain ⟨⟨oe, vs, at1, ⟨z1, z2⟩, fd⟩, _, _⟩ := I.hok a _ ha
  refine ⟨oe, od, mA, ?_, ⟨vs, fd⟩, h1, hns, rel⟩
  obtain ⟨cls, dict, data, sl⟩ := oe
  dsimp only at z1 z2 fd
  subst z1 z2 fd
  exact ⟨at1, rfl, rfl, h1⟩
def rIsY (K : PySem.W.Frag) : List V → Hp → VK → Prop := fun xs H Q => ∃ (a D dx : Addr) (fs : List (Str × V)) (cl : V) (u : Value) (b : Bool), xs = [.ref a, cl] ∧ ExcC K D ∧ ClsV cl u ∧ H a = some (exq a (.ref D) (some dx)) ∧ H dx = some (exd dx fs) ∧ PySem.W.kitOne K (.ref D) u = some b ∧ Q (.bl b) H
theorem call_isY : CallR X (.builtin "isinstance") (rIsY X.K) := by
  rintro pins s σ H xs us Q I r ⟨a, D, dx, fs, cl, u, b, rfl, T, k, ha, hd, e, q⟩
  obtain ⟨u1, u2, rfl, r1, r2⟩ := vals2 r
  cases r1
  cases k.eq r2
  obtain ⟨oe, od, mA, J, _⟩ := exq_inst I ha hd
  exact PySem.W.kia_one (PySem.S75.kit_err T) I.kIn J e (fun z => nomatch z) fun tk => ⟨.bl b, H, I.kept (t' := tk) fun _ _ z => z, rfl, q⟩
/-- e.f, e a caught exception -/
def tXw (K : PySem.W.Frag) (f : Str) (te : TE) : TE := fun σ H Q => te σ H fun y H1 => ∃ (a D dx : Addr) (fs : List (Str × V)) (v : V), y = .ref a ∧ XfC K D ∧ PySem.W.findIn K (.ref D) f = some none ∧ H1 a = some (exq a (.ref D) (some dx)) ∧ H1 dx = some (exd dx fs) ∧ fs.lookup f = some v ∧ Q v H1
theorem pe_xw {n : Str} {K : PySem.W.Frag} (he : PE X e te) (hK : X.K = K := by rfl) (hb : attributeBase e n X.env (eval e X.env) = eval e X.env := by rfl) : PE X (.Attribute e n pos) (tXw K n te) := by
  subst hK
  constructor
  intro pins s σ H Q I h
  refine attr_of hb (thn (he.run pins s σ H _ I h) ?_)
  rintro u s1 ⟨y, H1, I1, rx, a, D, dx, fs, v, rfl, T, hno, ha, hd, l, q⟩
  cases rx
  obtain ⟨oe, od, mA, J, _, hod, hns, rel⟩ := exq_inst I1 ha hd
  obtain ⟨od', ho', hl⟩ := lookIn_ns hns
  cases hod.symm.trans ho'
  obtain ⟨u, hu, ru⟩ := RelO.some_of (v := v) (o := mA n) (l ▸ rel n)
  exact HandSPX.exc_get I1.kIn J T.ga T.gg T.exC (PySem.W.findObj_own T.hdC hno rfl (by rw [hl, hu])) (handed_of ru) ⟨v, H1, I1.tok _, ru, q⟩
end
end Sd

/-! X3: a class of the text made where its __init__ may raise; a method, a def called so -/
namespace Sd
open PySem PySem.Spec PyProof.Rows L2
def tMakeS (C : Addr) (sp : Sp) (W : WX) (t : TA) : TE := fun σ H Q => t σ H fun vs H1 => ∀ x dx, H1 x = none → H1 dx = none → dx ≠ x → sp (.ref x :: vs) (upd (upd H1 dx (.own x)) x (.ins C dx [])) (fun v H2 => v = .non ∧ Q (.ref x) H2) fun cls d H2 => W cls d σ H2
section
variable {X : Cx} {c : Wd} {W : WX} {C : Addr} {x : Str} {k : Nat} {ps : List Str} {sp : Sp} {p pos : Pos} {e : Expr} {es : List Expr} {t : TA}
theorem pe_mkS (D : MkO c x C k ps sp) (hr : Room (k + 1) X.A) (tk : Takes X W) (hg : Gl X x) (ha : PA X (e :: es) t) (ho : Of X c := by exact ⟨rfl, rfl, rfl, rfl, rfl⟩)
    (hdb : (x == ("__debug__" : Str)) = false := by decide) (he : starEach (e :: es) X.env = (false, eval e X.env) :: starEach es X.env := by rfl) (hpl : (backTo pos (starEach es X.env)).any (·.1) = false := by rfl) :
    PE X (.Call (.Name x p) (e :: es) [] pos) (tMakeS C sp W t) := by
  obtain ⟨f, fd, M, hm, hb, F⟩ := D
  obtain ⟨c1, c2, c3, c4, c5⟩ := ho
  obtain ⟨P, w, K, mg, base⟩ := c
  dsimp only at c1 c2 c3 c4 c5
  subst c1 c2 c3 c4 c5
  constructor
  intro pins s σ H Q I h
  apply wpAny_Call_Name_kw
  apply ld_glob I hg hm ?_ hdb
  apply PySem.W.callWith_K (h₀ := X.base) I.ok.mod.kin M.kp ?_ he hpl
  apply thn (ha.run pos pins s σ H _ I h)
  rintro us s1 ⟨vs, H1, I1, r, q⟩
  refine ⟨I1.kIn, ?_⟩
  -- the new object, and its __init__ called
  have told := q (s1.heap.objs.size + 1) s1.heap.objs.size (I1.hok.fresh (Nat.le_succ _)) (I1.hok.fresh (Nat.le_refl _)) (Nat.ne_of_lt (Nat.lt_succ_self _))
  have I2 := Inv.made (C := C) I1
  have r2 : Vals (V.ref (s1.heap.objs.size + 1) :: vs) (Value.ref (s1.heap.objs.size + 1) :: us) := .cons rfl r
  have len : (Value.ref (s1.heap.objs.size + 1) :: us).length = ps.length := by
    rw [← r2.length]
    exact F.len _ _ _ _ told
  have bnd := hb _ (Value.ref (s1.heap.objs.size + 1) :: us) I2.kIn (by rw [List.append_nil]; exact len)
  rw [List.append_nil] at bnd
  apply wpAny_call
  apply make_map (f := f) I1.kIn M.makes M.init (beq_iff_eq.mp M.fn)
  refine codeAny_mono (F.run _ X.stack _ _ ⟨Value.ref (s1.heap.objs.size + 1) :: us, []⟩ _ _ _ _ (hr.make C us []) (I2.env0.make C us []) bnd r2 told) ?_
  intro z s' y
  match z, y with
  | .error u, y => exact tk u s' (XE.of_call I2 (fun _ _ _ h => h) y)
  | .ok .next, y => exact y.elim
  | .ok .brk, y => exact y.elim
  | .ok .cont, y => exact y.elim
  | .ok (.ret u), y =>
    obtain ⟨v, H3, I3, rv, ev, q3⟩ := I2.after y
    subst ev
    exact ⟨rv, V.ref (s1.heap.objs.size + 1), H3, I3, rfl, q3⟩
end
end Sd

/-! T1: sorted(set(texts)) -/
namespace Sd
open PySem PySem.Spec PyProof.Rows L2
/-- a set of texts stands at a; its table in order, its order known or told -/
def TxR (P : Program) (w : World) (h : Heap) (a : Addr) (S : Str → Bool) (n : Nat) : Prop :=
  ∃ (o : Obj) (es : Array (Int × Value)) (ep : Nat) (t : SetTable), h.get? a = some o ∧ o.ExactSet ∧ o.data = .set es ep t ∧ ElemsOf (PySem.strKind P w) es.toList ∧ (∀ k, S k = true ↔ ∃ e ∈ es.toList, (PySem.strKind P w).is k e.2 = true) ∧
    (es.size < scanBound ∧ t.fits es.size = true ∧ es.size = n) ∧ Ris t.place.toList ∧ (w.params.followText "set-order" = true ∨ t.led = true)
section
variable {P : Program} {w : World} {A : Around} {E : Value → Shared → Prop} {s : Shared} {a : Addr} {S : Str → Bool} {n : Nat}
theorem TxR.of (R : TxR P w s.heap a S n) : s.heap.SetOf (PySem.strKind P w) a S n := by
  obtain ⟨o, es, ep, t, h1, h2, h3, h4, h5, ⟨h6, h7, h8⟩, _⟩ := R
  exact ⟨o, es, ep, t, h1, h2, h3, h4, h5, h6, h7, h8⟩
theorem TxR.congr {h : Heap} {T : Str → Bool} {m : Nat} (R : TxR P w h a S n) (e : ∀ k, T k = S k) (en : m = n) : TxR P w h a T m := by
  obtain ⟨o, es, ep, t, h1, h2, h3, h4, h5, h6, h7⟩ := R
  exact ⟨o, es, ep, t, h1, h2, h3, h4, fun k => by rw [e k]; exact h5 k, by rw [en]; exact h6, h7⟩
/-- the end of an add: the new payload is stored, laid out anew where it is too full -/
theorem tx_tail {g : Bool → Sem Unit} (hg : ∀ (b : Bool) (s1 : Shared) (Q1 : Unit → Shared → Prop), Q1 () s1 → wpAny (model P w) A (g b) Q1 E s1) {o : Obj} {es es1 : Array (Int × Value)} {ep : Nat} {t t2 : SetTable} {T : Str → Bool} {full : Bool} {R : Option Bool → Shared → Prop}
    (ho : s.heap.get? a = some o) (hx : o.ExactSet) (hd : o.data = .set es ep t) (el : ElemsOf (PySem.strKind P w) es1.toList) (mem : ∀ k, T k = true ↔ ∃ e ∈ es1.toList, (PySem.strKind P w).is k e.2 = true)
    (few : es1.size < scanBound) (fit : t2.fits es1.size = true) (ri : Ris t2.place.toList) (le : w.params.followText "set-order" = true ∨ t2.led = true) (hR : ∀ h', Heap.SameBut a s.heap h' → TxR P w h' a T es1.size → R (some true) { s with heap := h' }) :
    wpAny (model P w) A (do
        storeSet a es1 t2
        if (!full && t2.tooFull) = true then do
            g (relayAll t2 es1 (SetTable.grown es1.size)).2.2
            storeSet a (relayAll t2 es1 (SetTable.grown es1.size)).1 (relayAll t2 es1 (SetTable.grown es1.size)).2.1
            pure (some true)
          else pure (some true)) R E s := by
  have put1 := store_at (es' := es1) (t' := t2) ho hd
  have same1 := Heap.SameBut.update s.heap a (Obj.putSet es1 t2)
  apply wpAny_bind
  apply wpAny_storeSet_of ho hd ?_ (fits_of_scanBound few)
  by_cases c : (!full && t2.tooFull) = true
  · rw [if_pos c]
    have p1 := relayAll_perm t2 es1 (SetTable.grown es1.size)
    have p2 := relayAll_fits t2 es1 (SetTable.grown es1.size)
    have p3 := relayAll_ris t2 es1 (SetTable.grown es1.size)
    have p4 := relayAll_led t2 es1 (SetTable.grown es1.size)
    generalize relayAll t2 es1 (SetTable.grown es1.size) = Z at p1 p2 p3 p4 ⊢
    rcases Z with ⟨es2, t3, gave⟩
    dsimp only at p1 p2 p3 p4 ⊢
    have sz : es2.size = es1.size := by
      rw [← Array.length_toList, p1.length_eq, Array.length_toList]
    apply wpAny_bind
    apply hg
    apply wpAny_bind
    apply wpAny_storeSet_of put1 rfl ?_ (fits_of_scanBound (by omega))
    have put2 := store_at (es' := es2) (t' := t3) put1 rfl
    apply wpAny_pure
    refine hR _ (same1.trans (Heap.SameBut.update _ a _)) ⟨_, es2, _, t3, put2, hx, rfl, fun e he => el e (p1.mem_iff.mp he), fun k => ?_, ⟨by omega, p2, sz⟩, p3, le.imp id fun z => by rw [p4]; exact z⟩
    rw [mem k]
    exact ⟨fun ⟨e, h1, h2⟩ => ⟨e, p1.mem_iff.mpr h1, h2⟩, fun ⟨e, h1, h2⟩ => ⟨e, p1.mem_iff.mp h1, h2⟩⟩
  · rw [if_neg c]
    exact wpAny_pure (hR _ same1 ⟨_, es1, _, t2, put1, hx, rfl, el, mem, ⟨few, fit, rfl⟩, ri, le⟩)
theorem tx_add {k : Str} {tk : Tok} {Q : Bool → Shared → Prop} (R : TxR P w s.heap a S n) (room : n + 1 < scanBound)
    (hQ : ∀ h', Heap.SameBut a s.heap h' → TxR P w h' a (fun j => S j || decide (j = k)) (if S k = true then n else n + 1) → Q (!S k) { s with heap := h' }) :
    wpAny (model P w) A (setAddHashed a (.str k tk) ((PySem.strKind P w).hash k)) Q E s := by
  obtain ⟨o, es, ep, t, ho, hx, hd, el, mem, ⟨few, fit, hn⟩, ri, le⟩ := R
  have isK : (PySem.strKind P w).is k (.str k tk) = true := strKind_is _ _ _ _
  have isOnly : ∀ j, (PySem.strKind P w).is j (.str k tk) = true ↔ j = k := fun j => by
    constructor
    · intro z
      have z' : (k == j) = true := z
      exact (eq_of_beq z').symm
    · rintro rfl
      exact isK
  have scan : (Value.str k tk).scannable = true := rfl
  unfold setAddHashed setAddHashedIn
  apply wpAny_holding
  apply wpAny_bind
  apply wpAny_setState_of ho hd fit
  dsimp only
  rw [byScan_of scan few el]
  simp only [↓reduceIte]
  unfold setAddByScan
  apply wpAny_bind
  apply wpAny_bind
  apply wpAny_rule
  apply wpAny_bind
  apply wpAny_setScan_of isK ho hd fit el
  cases met : List.findIdx? (fun e => (PySem.strKind P w).is k e.2) es.toList with
  | some j =>
    dsimp only
    obtain ⟨hj, pj, _⟩ := List.findIdx?_eq_some_iff_getElem.mp met
    have has : S k = true := (mem k).2 ⟨es.toList[j], List.getElem_mem hj, pj⟩
    have q := hQ s.heap (Heap.SameBut.refl a s.heap) ⟨o, es, ep, t, ho, hx, hd, el, fun i => by
      rw [Bool.or_eq_true, decide_eq_true_eq, ← mem i]
      exact ⟨fun z => z.elim id (fun e => e ▸ has), .inl⟩, ⟨few, fit, by rw [if_pos has]; exact hn⟩, ri, le⟩
    rw [has] at q
    exact wpAny_pure (wpAny_pure q)
  | none =>
    dsimp only
    have lacks : S k = false := by
      cases q : S k with
      | false => rfl
      | true =>
        obtain ⟨e, he, q2⟩ := (mem k).1 q
        have c := List.findIdx?_eq_none_iff.mp met e he
        rw [q2] at c
        cases c
    have noRule : ∀ (b : Bool) {s1 : Shared} {Q1 : Unit → Shared → Prop}, Q1 () s1 → wpAny (model P w) A (match b with | true => rule "set.scan.the-table-gave-way" | false => pure ()) Q1 E s1 := by
      intro b s1 Q1 q
      cases b
      · exact wpAny_pure q
      · exact wpAny_rule q
    have l1 := layNew_perm t es ((PySem.strKind P w).hash k) (.str k tk)
    have l2 := layNew_fits t es ((PySem.strKind P w).hash k) (.str k tk)
    have l3 := layNew_ris t es ((PySem.strKind P w).hash k) (.str k tk) ri
    have l4 := layNew_led t es ((PySem.strKind P w).hash k) (.str k tk)
    generalize layNew t es ((PySem.strKind P w).hash k) (.str k tk) = Z at l1 l2 l3 l4 ⊢
    rcases Z with ⟨es1, t1, full, gave⟩
    dsimp only at l1 l2 l3 l4 ⊢
    rw [Array.toList_push] at l1
    have pc : es1.toList.Perm (((PySem.strKind P w).hash k, Value.str k tk) :: es.toList) := l1.trans (List.perm_append_singleton _ _)
    have el1 : ElemsOf (PySem.strKind P w) es1.toList := fun e he => by
      rcases List.mem_cons.mp (pc.mem_iff.mp he) with z | z
      · rw [z]
        exact ⟨⟨k, isK, rfl⟩, rfl⟩
      · exact el e z
    have mem1 : ∀ i, (S i || decide (i = k)) = true ↔ ∃ e ∈ es1.toList, (PySem.strKind P w).is i e.2 = true := fun i => by
      rw [Bool.or_eq_true, decide_eq_true_eq, mem i]
      constructor
      · rintro (⟨e, h1, h2⟩ | rfl)
        · exact ⟨e, pc.mem_iff.mpr (List.mem_cons_of_mem _ h1), h2⟩
        · exact ⟨_, pc.mem_iff.mpr List.mem_cons_self, isK⟩
      · rintro ⟨e, h1, h2⟩
        rcases List.mem_cons.mp (pc.mem_iff.mp h1) with z | z
        · rw [z] at h2
          exact .inr ((isOnly i).mp h2)
        · exact .inl ⟨e, z, h2⟩
    have sz : es1.size = n + 1 := by
      rw [← Array.length_toList, pc.length_eq, List.length_cons, Array.length_toList, hn]
    have le1 : w.params.followText "set-order" = true ∨ t1.led = true := le.imp id fun z => by
      rw [l4]
      exact z
    have last : ∀ h', Heap.SameBut a s.heap h' → TxR P w h' a (fun j => S j || decide (j = k)) es1.size → Q true { s with heap := h' } := fun h' sb r => by
      have q := hQ h' sb
      rw [lacks] at q
      rw [sz] at r
      exact q r
    apply wpAny_bind
    apply noRule
    split
    · apply wpAny_bind
      rw [hashByValue_scannable 8 scan]
      apply wpAny_pure
      refine tx_tail (es1 := es1) ?_ ho hx hd el1 mem1 (by omega) ?_ ?_ ?_ ?_
      · intro b s1 Q1 q
        cases b <;> first | exact wpAny_pure q | exact wpAny_rule q
      · first | (split <;> first | exact l2 | exact SetTable.fits_plain_off l2) | exact l2
      · first | (split <;> exact l3) | exact l3
      · first | (split <;> exact le1) | exact le1
      · intro h' sb r
        dsimp only
        exact wpAny_pure (last h' sb r)
    · apply wpAny_bind
      apply wpAny_pure
      simp only [↓reduceIte]
      refine tx_tail (es1 := es1) ?_ ho hx hd el1 mem1 (by omega) l2 l3 le1 ?_
      · intro b s1 Q1 q
        cases b <;> first | exact wpAny_pure q | exact wpAny_rule q
      · intro h' sb r
        dsimp only
        exact wpAny_pure (last h' sb r)
end
end Sd

/-! T2: sorted(set(texts)), the set made and laid in order -/
namespace Sd
open PySem PySem.Spec PyProof.Rows L2
section
variable {prog : Program} {w : World} {A : Around} {E : Value → Shared → Prop} {s : Shared}
/-- set(a) begins with an empty one; its order is told, or followed -/
theorem code_tx_new (a : Value) {Q1 : Value → Shared → Prop}
    (h : ∀ led : Bool, (w.params.followText "set-order" = true ∨ led = true) → Q1 (.ref s.heap.objs.size) { s with heap := s.heap.push { cls := .type "set", dict := none, data := .set #[] 0 (.fresh 0 0 led) } }) :
    codeAny (model prog w) A (.call (.builtin "set.__new__") ⟨[.type "set", a], []⟩) (wants Q1 E) s := by
  have either : w.params.followText "set-order" = true ∨ (!w.params.followText "set-order") = true := by
    cases w.params.followText "set-order"
    · exact .inr rfl
    · exact .inl rfl
  apply codeAny_of_tree
  change wpAny _ A.in1 (checkBuiltinCall "set.__new__" ⟨[.type "set", a], []⟩ >>= fun _ => again (.builtin "set.__new__" ⟨[.type "set", a], []⟩)) _ _ s
  apply wpAny_bind
  apply wpAny_of_eq (F.newCall_set_1 a)
  refine wpAny_pure ⟨plainId_quiet F.plain_set_new _, codeAny_builtin F.entry_set_new ?_⟩
  rw [Around.under_plainId F.plain_set_new _]
  unfold Builtin.«set.__new__» Builtin.Frozenset.newClass
  have self := sub_set_self
  rcases s with ⟨hp, g, d, tk, os⟩
  dsimp only
  wp_walk
  apply wpAny_askSetting
  apply wpAny_pure
  dsimp only
  simp only [newObj]
  apply wpAny_bind
  apply wpAny_alloc
  exact wpAny_pure (wpAny_pure (h _ either))
end
section
variable {prog : Program} {w : World} {A : Around}
/-- the loop of set.update over an iterator that hands out texts -/
theorem update_tx {R : Result → Shared → Prop} {it : Addr} {fp wr : List Addr} {G : Array GenState → Array GenState → Prop} {n : Nat} {Pv : Nat → Value → Prop} {St : Nat → Shared → Prop}
    (W : WalksS prog w A.in1 it fp wr G n Pv St) {S : Addr} (off : S ∉ fp) {xs : List Str} (len : xs.length = n) (few : n + 1 < scanBound) (val : ∀ i v, Pv i v → ∃ t, v = .str (xs.getD i Str.empty) t) :
    ∀ (left i : Nat) (s : Shared), i + left = n → St i s → TxR prog w s.heap S (among xs i) (unlike xs i) →
      (∀ s', Moved (S :: wr) G s s' → TxR prog w s'.heap S (among xs n) (unlike xs n) → R (.ok (.ret .none)) s') →
      codeAny (model prog w) A (.builtin "set.update.loop" ⟨[.ref S, .ref it], []⟩) R s := by
  have offW : S ∉ wr := fun z => off (W.sub _ z)
  have carry : ∀ {s s' : Shared} {T : Str → Bool} {m : Nat}, Moved wr G s s' → TxR prog w s.heap S T m → TxR prog w s'.heap S T m := by
    rintro s s' T m mv ⟨o, es, ep, t, ho, z⟩
    exact ⟨o, es, ep, t, mv.heap S _ offW ho, z⟩
  intro left
  induction left with
  | zero =>
    intro i s hi st hS fin
    obtain rfl : i = n := by omega
    apply codeAny_builtin PyProof.Rows.F.entry_set_update_loop
    rw [Around.under_plainId PyProof.Rows.F.plain_set_update_loop _]
    change wpAny _ A.in1 (pyNext (.ref it) >>= _) _ _ s
    apply wpAny_bind
    refine W.done s _ _ st fun s' mv => ?_
    change wpAny _ A.in1 (ret Value.none) _ _ s'
    exact wpAny_pure (fin s' (mv.mono fun b hb => List.mem_cons_of_mem _ hb) (carry mv hS))
  | succ left ih =>
    intro i s hi st hS fin
    have lt : i < n := by omega
    apply codeAny_builtin PyProof.Rows.F.entry_set_update_loop
    rw [Around.under_plainId PyProof.Rows.F.plain_set_update_loop _]
    change wpAny _ A.in1 (pyNext (.ref it) >>= _) _ _ s
    apply wpAny_bind
    refine W.item i s _ _ lt st fun v s' pv st' mv => ?_
    rcases val i v pv with ⟨t, rfl⟩
    change wpAny _ A.in1 (holding [Value.str (xs.getD i Str.empty) t] (setAdd S (.str (xs.getD i Str.empty) t)) >>= _) _ _ s'
    apply wpAny_bind
    apply wpAny_holding
    unfold setAdd
    apply wpAny_holding
    apply wpAny_bind
    refine (PySem.strKind prog w).pyHash (k := xs.getD i Str.empty) (strKind_is _ _ _ _) ?_
    have room : unlike xs i + 1 < scanBound := by
      have := unlike_le xs i
      omega
    refine tx_add (s := { s' with toks := s'.toks + 1 }) (show TxR prog w s'.heap S _ _ from carry mv hS) room fun h' but hS2 => ?_
    have hS3 : TxR prog w h' S (among xs (i + 1)) (unlike xs (i + 1)) := hS2.congr (fun k => among_succ (by omega) k) rfl
    refine wpAny_pure ⟨plainId_quiet PyProof.Rows.F.plain_set_update_loop _, ih (i + 1) _ (by omega) (W.frame _ s' _ _ st' (Nat.le_succ _) fun b hb o e => ?_) hS3 fun s'' mv2 hS4 => fin s'' (Moved.trans W.gtrans ((mv.mono fun b hb => List.mem_cons_of_mem _ hb).then_heap (Nat.le_succ _) fun b o hb e => ?_) mv2) hS4⟩
    · exact (but.2 b fun z => off (z ▸ hb)).trans e
    · exact (but.2 b fun z => hb (z ▸ List.mem_cons_self)).trans e
end

section
variable {prog : Program} {w : World} {A : Around} {E : Value → Shared → Prop} {s : Shared}
/-- set(l), l a list of texts -/
theorem set_of_tx {l : Addr} {items : Array Value} {xs : List Str} {Q : Value → Shared → Prop} (calm : A.handled = none) (hl : s.heap.IsList l items) (txt : PyProof.Rows.StrsAre items.toList xs) (few : xs.length + 1 < scanBound)
    (h : ∀ (h' : Heap) (tk : Nat), TxR prog w h' s.heap.objs.size (among xs xs.length) (unlike xs xs.length) → (∀ b o, b < s.heap.objs.size → s.heap.get? b = some o → h'.get? b = some o) → Q (.ref s.heap.objs.size) { s with heap := h', toks := tk }) :
    wpAny (model prog w) A (call (.type "set") [.ref l]) Q E s := by
  rcases PySem.F.called_set with ⟨no1, can, ⟨c, tl, mro⟩, made, _, sub, ini⟩
  have many : xs.length = items.size := by rw [← StrsAre.len_eq txt, Array.length_toList]
  have one := PySem.F.typeCall_set_1 (.ref l)
  apply wpAny_call
  apply codeAny_of_tree
  change wpAny _ _ (callAny (.type "set") _) _ _ _
  refine wpAny_pure ⟨Code.quiet_builtin _ (by decide +kernel), codeAny_builtin PySem.F.entry_type_call ?_⟩
  rw [Around.under_plain (weight_type_call_type "set" [.ref l] []) rfl]
  repeat (any_goals first | assumption | wp_step)
  -- the empty set, then its __init__
  refine codeAny_mono (code_tx_new (.ref l) (E := E) (Q1 := fun obj s1 => ∃ led : Bool, (w.params.followText "set-order" = true ∨ led = true) ∧ obj = .ref s.heap.objs.size ∧ s1 = { s with heap := s.heap.push { cls := .type "set", dict := none, data := .set #[] 0 (.fresh 0 0 led) } }) fun led hl => ⟨led, hl, rfl, rfl⟩) ?_
  intro r s1 hr
  match r, hr with
  | .error _, hr => exact hr
  | .ok .next, hr => exact hr.elim
  | .ok .brk, hr => exact hr.elim
  | .ok .cont, hr => exact hr.elim
  | .ok (.ret _), ⟨led, hled, e1, e2⟩ =>
    subst e1 e2
    generalize eo : ({ cls := .type "set", dict := none, data := .set #[] 0 (.fresh 0 0 led) } : Obj) = o
    have new : (s.heap.push o).get? s.heap.objs.size = some o := by
      subst eo
      exact Heap.get?_push_size _ rfl
    have isSet : Shared.TypeIs { s with heap := s.heap.push o } (.ref s.heap.objs.size) "set" := ⟨o, new, by rw [← eo]⟩
    have look := ini.lookup
    have bnd := ini.bind (.ref s.heap.objs.size)
    repeat (any_goals first | assumption | wp_step)
    refine codeAny_mono (codeAny_call_builtin (R := wants (fun r s2 => r = .none ∧ ∃ h' tk, s2 = { s with heap := h', toks := tk } ∧ TxR prog w h' s.heap.objs.size (among xs xs.length) (unlike xs xs.length) ∧
      (∀ b o, b < s.heap.objs.size → s.heap.get? b = some o → h'.get? b = some o)) E) ini.plain PySem.F.entry_set_init (check_set_init_1 isSet ?_)) ?_
    · -- the walk over the list
      subst eo
      rcases hl with ⟨⟨ocl, odc, odt, osl⟩, hol, hcl, nl, hdl⟩
      dsimp only at hcl hdl
      subst hcl hdl
      have hol2 : (s.heap.push { cls := .type "set", dict := none, data := .set #[] 0 (.fresh 0 0 led) }).get? l = some { cls := .type "list", dict := odc, data := .seq items nl, slots := osl } := Heap.get?_push_of_some _ hol
      have asList : (s.heap.push { cls := .type "set", dict := none, data := .set #[] 0 (.fresh 0 0 led) }).IsList l items := ⟨_, hol2, rfl, nl, rfl⟩
      have n1 := PySem.F.sub_list_set
      have n2 := PySem.F.sub_list_frozenset
      have n3 : (Value.type "list" == Value.type "dict") = false := by decide
      have below : l < s.heap.objs.size := Heap.lt_size hol
      have sz : (s.heap.push { cls := .type "set", dict := none, data := .set #[] 0 (.fresh 0 0 led) }).objs.size = s.heap.objs.size + 1 := Heap.size_push ..
      unfold Builtin.«set.__init__» noKeywords Builtin.Frozenset.updateFrom
      generalize itr : pyIter = P
      wp_walk
      subst itr
      refine wpAny_pyIter_list asList ?_
      refine wpAny_bind (wpAny_runValue ?_)
      have off : s.heap.objs.size ∉ [(s.heap.push { cls := .type "set", dict := none, data := .set #[] 0 (.fresh 0 0 led) }).objs.size, l] := by
        simp only [List.mem_cons, List.not_mem_nil, or_false, not_or]
        exact ⟨fun z => by rw [sz] at z; exact Nat.ne_of_lt (Nat.lt_succ_self _) z, fun z => Nat.ne_of_lt below z.symm⟩
      have few2 : items.size + 1 < scanBound := by omega
      have apart : l ≠ (s.heap.push { cls := .type "set", dict := none, data := .set #[] 0 (.fresh 0 0 led) }).objs.size := fun z => by rw [sz] at z; exact Nat.ne_of_lt (Nat.lt_succ_of_lt below) z
      refine update_tx ((Walks.list (by simp [calm] : A.in1.in1.in1.handled = none) _ l apart items).toS) (S := s.heap.objs.size) off (xs := xs) many few2
        (fun i v hv => SS.strs_at txt i v (by rw [Array.getElem?_toList]; exact hv)) items.size 0 _ (by omega) ⟨⟨_, Heap.get?_push_size _ rfl, rfl, rfl⟩, asList.push _⟩ ?_ ?_
      · have got : ((s.heap.push { cls := .type "set", dict := none, data := .set #[] 0 (.fresh 0 0 led) }).push { cls := .type "list_iterator", data := .fields #[.ref l, .int 0 0] }).get? s.heap.objs.size = some { cls := .type "set", dict := none, data := .set #[] 0 (.fresh 0 0 led) } := Heap.get?_push_of_some _ new
        exact ⟨_, #[], 0, .fresh 0 0 led, got, ⟨rfl, rfl, rfl⟩, rfl, (fun e he => by simp at he), (fun k => by simp [among]), ⟨by decide, rfl, rfl⟩, List.Pairwise.nil, hled⟩
      · rintro ⟨h', g', d', tk', os'⟩ mv hS
        cases mv.gens
        cases mv.drawn
        cases mv.os
        change wpAny _ _ _ _ _ _
        apply wpAny_pure
        change wpAny _ _ (ret Value.none) _ _ _
        refine wpAny_pure ⟨rfl, h', tk', rfl, by rw [many]; exact hS, fun b u hb e => ?_⟩
        refine mv.heap b u (fun z => ?_) (Heap.get?_push_of_some _ (Heap.get?_push_of_some _ e))
        rcases List.mem_cons.mp z with z | z
        · exact Nat.ne_of_lt hb z
        · have z2 := List.mem_singleton.mp z
          rw [sz] at z2
          exact Nat.ne_of_lt (Nat.lt_succ_of_lt hb) z2
    · intro r2 s2 hr2
      match r2, hr2 with
      | .error _, hr2 => exact hr2
      | .ok .next, hr2 => exact hr2.elim
      | .ok .brk, hr2 => exact hr2.elim
      | .ok .cont, hr2 => exact hr2.elim
      | .ok (.ret _), ⟨e1, h', tk, e2, hS, kept⟩ =>
        subst e1 e2
        repeat (any_goals first | assumption | wp_step)
        exact h _ _ hS kept
end
section
variable {P : Program} {w : World} {A : Around} {E : Value → Shared → Prop} {s : Shared} {a : Addr} {S : Str → Bool} {n : Nat}
theorem strsAre_some : ∀ (l : List Value), (∀ v ∈ l, ∃ k t, v = Value.str k t) → ∃ ks, StrsAre l ks
  | [], _ => ⟨[], .nil⟩
  | v :: l, h => by
    obtain ⟨k, t, rfl⟩ := h v List.mem_cons_self
    obtain ⟨ks, hk⟩ := strsAre_some l fun x hx => h x (List.mem_cons_of_mem _ hx)
    exact ⟨k :: ks, .cons k t hk⟩
theorem elem_str {e : Int × Value} (h : ∃ k, (PySem.strKind P w).is k e.2 = true) : ∃ k t, e.2 = Value.str k t := by
  obtain ⟨k, hk⟩ := h
  have hk' : Value.isStrOf k e.2 = true := hk
  obtain ⟨t, ht⟩ := Value.isStrOf_shape hk'
  exact ⟨k, t, ht⟩
/-- sorted(a), a set of texts, fewer than 64 -/
theorem sorted_tx {Q : Value → Shared → Prop} (R : TxR P w s.heap a S n) (calm : A.handled = none) (few : n < 64)
    (hQ : ∀ (s' : Shared) (p : Addr) (out : Array Value) (c : Nat) (ys : List Str), (∀ b o, s.heap.get? b = some o → s'.heap.get? b = some o) → s'.gens = s.gens → s'.os = s.os → s.heap.objs.size ≤ p →
      s'.heap.get? p = some (seqObj "list" out c) → StrsAre out.toList ys → ys.length = n → Q (.ref p) s') : wpAny (model P w) A (call (.builtin "sorted") [.ref a]) Q E s := by
  obtain ⟨o, es, ep, t, ho, hx, hd, el, mem, ⟨fw, fit, hn⟩, ri, le⟩ := R
  apply Calls.call_function_entry kind_sorted plain_sorted entry_sorted (args_sorted1 _)
  unfold Builtin.«sorted»
  apply wpAny_bind (m := checkCount "sorted" 1 1 _)
  apply wpAny_pure
  apply wpAny_bind
  refine collect_set (A := A.in1) calm ⟨o, ho, hx.1, hd⟩ fit fw ri le fun s1 vs k1 hz g1 o1 pm => ?_
  have len : vs.length = n := by
    rw [pm.length_eq, List.length_map, Array.length_toList]
    exact hn
  obtain ⟨ks, hK⟩ := strsAre_some vs fun v hv => by
    obtain ⟨e, he, q⟩ := List.mem_map.mp (pm.mem_iff.mp hv)
    obtain ⟨k, t, q2⟩ := elem_str (P := P) (w := w) (let ⟨⟨k, hk, _⟩, _⟩ := el e he; ⟨k, hk⟩)
    exact ⟨k, t, q.symm.trans q2⟩
  apply wpAny_bind
  apply wpAny_newList ?_ (by rw [len, sizeLine_eq]; omega)
  have new : (s1.heap.push (seqObj "list" vs.toArray 0)).get? s1.heap.objs.size = some (seqObj "list" vs.toArray 0) := Heap.get?_push_size _ rfl
  apply wpAny_bind
  apply wpAny_holding
  refine wpAny_call_entry slot_list_sort ⟨_, new, rfl⟩ entry_list_sort (list_sort_treeK strKind_oneLt new hK.keysOf (fun v1 v2 rest e => keyKind_strs (by rw [← e]; exact hK)) (by rw [len]; exact few) fun st' hp hs => ?_) (args_list_sort _)
  obtain ⟨ys, y1, y2, y3⟩ := sorted_out_str hK hp hs
  obtain ⟨c, hc⟩ := sortedHeap_at (vs := vs) (out := (arrOf st').map (·.2)) new
  refine ⟨_, rfl, wpAny_pure ⟨_, rfl, hQ _ s1.heap.objs.size _ c ys (fun b u e => ?_) g1 o1 hz hc y1 ?_⟩⟩
  · have q := k1 b u e
    have lt := Heap.lt_size q
    show (sortedHeap (s1.heap.push (seqObj "list" vs.toArray 0)) s1.heap.objs.size vs _).get? b = some u
    rw [sortedHeap_old (Nat.ne_of_lt lt) (by rw [size_push']; exact Nat.lt_succ_of_lt lt)]
    exact Heap.get?_push_of_some _ q
  · rw [y2.length_eq, ← StrsAre.len_eq hK, len]
end
section
variable {X : Cx}
def tSortSet (K : PySem.W.Frag) (ta : TE) : TE := fun σ H Q => ta σ H fun x H1 => ∃ l, ∃ xs : List Str, x = .ref l ∧ SqL K H1 l (xs.map V.str) ∧ xs.length < 64 ∧ ∀ p (ys : List Str), ys.length = unlike xs xs.length → H1 p = none → Q (.ref p) (upd H1 p (.lst (ys.map V.str)))
/-- sorted(set(xs)), xs a list of texts -/
theorem pe_sortSet {a : Expr} {ta : TE} {p p2 q pos : Pos} (hc : X.calm = true) (hg : Gl X "sorted") (hm : X.mg "sorted" = none) (hg2 : Gl X "set") (hm2 : X.mg "set" = none) (ha : PE X a ta)
    (na : starEach [a] X.env = (false, eval a X.env) :: starEach [] X.env := by rfl) : PE X (.Call (.Name "sorted" p) [.Call (.Name "set" p2) [a] [] q] [] pos) (tSortSet X.K ta) := by
  constructor
  intro pins s σ H Q I h
  refine Call_ (ld_blt I hg hm (show bootBuiltins "sorted" = some (.builtin "sorted") by rfl) ?_)
  refine PyProof.Rows.callWith_builtin1 (PyProof.Rows.args_cons ?_ rfl) rfl rfl
  refine Call_ (ld_blt I hg2 hm2 boot_set ?_)
  refine PyProof.Rows.callWith_type1 (PyProof.Rows.args_cons (thn (ha.run pins s σ H _ I h) fun v s1 ⟨x, H1, I1, r1, q1⟩ => PyProof.Rows.args_nil ?_) na) na rfl
  obtain ⟨l, xs, rfl, hq, h1, q1⟩ := q1
  cases r1
  obtain ⟨its, r, pl, hz⟩ := I1.list hq
  have sb : scanBound = 4096 := rfl
  have ul := unlike_le xs xs.length
  refine set_of_tx (I1.ok.hd hc) pl.isList (xs := xs) (by simpa using strsAre_of r) (by omega) fun h' tk hS hk => ?_
  apply PyProof.Rows.args_nil
  have I2 : Inv X pins σ H1 { s1 with heap := h', toks := tk } := I1.kept fun b o e => hk b o (Heap.lt_size e) e
  refine sorted_tx (s := { s1 with heap := h', toks := tk }) hS (I1.ok.hd hc) (by omega) fun s' p out c ys k g o hp hg hi hl => ?_
  have hn : H1 p = none := I2.hok.fresh hp
  have hlen : (ys.map V.str).length ≤ sizeLine := by
    rw [List.length_map, hl, sizeLine_eq]
    omega
  have J : Inv X pins σ (upd H1 p (.lst (ys.map V.str))) { ({ s1 with heap := h', toks := tk } : Shared) with heap := s'.heap, gens := s'.gens, drawn := s'.drawn, toks := s'.toks } :=
    I2.call (ch := []) (Un.laid k hp hn) (I2.hok.laid k hp ⟨hlen, out.toList, c, vals_of_strs hi, hg⟩) (by rw [g]; exact I2.bare) (fun _ z => nomatch z)
  have e : s' = { ({ s1 with heap := h', toks := tk } : Shared) with heap := s'.heap, gens := s'.gens, drawn := s'.drawn, toks := s'.toks } := by
    cases s'
    cases s1
    cases o
    rfl
  rw [e]
  exact ⟨.ref p, _, J, rfl, q1 p ys hl hn⟩
end
end Sd

/-! T3: sorted(set(a tuple of texts)), and what stands in it -/
namespace Sd
open PySem PySem.Spec PyProof.Rows L2
theorem isTup_push {h : Heap} {a : Addr} {items : Array Value} (t : h.IsTuple a items) (o : Obj) : (h.push o).IsTuple a items := by
  obtain ⟨u, h1, h2⟩ := t
  exact ⟨u, Heap.get?_push_of_some _ h1, h2⟩
theorem strsAre_mem : ∀ {vs : List Value} {ks : List Str} {z : Str}, StrsAre vs ks → z ∈ ks → ∃ t, Value.str z t ∈ vs
  | _, _, z, .nil, h => nomatch h
  | _, _, z, .cons k t r, h => by
    rcases List.mem_cons.mp h with e | e
    · exact ⟨t, by rw [e]; exact List.mem_cons_self⟩
    · obtain ⟨u, hu⟩ := strsAre_mem r e
      exact ⟨u, List.mem_cons_of_mem _ hu⟩
theorem strsAre_back : ∀ {vs : List Value} {ks : List Str} {z : Str} {t : Tok}, StrsAre vs ks → Value.str z t ∈ vs → z ∈ ks
  | _, _, z, t, .nil, h => nomatch h
  | _, _, z, t, .cons k u r, h => by
    rcases List.mem_cons.mp h with e | e
    · cases e
      exact List.mem_cons_self
    · exact List.mem_cons_of_mem _ (strsAre_back r e)
section
variable {prog : Program} {w : World} {A : Around} {E : Value → Shared → Prop} {s : Shared}
/-- set(l), l a tuple of texts -/
theorem set_of_txT {l : Addr} {items : Array Value} {xs : List Str} {Q : Value → Shared → Prop} (calm : A.handled = none) (hl : s.heap.IsTuple l items) (txt : PyProof.Rows.StrsAre items.toList xs) (few : xs.length + 1 < scanBound)
    (h : ∀ (h' : Heap) (tk : Nat), TxR prog w h' s.heap.objs.size (among xs xs.length) (unlike xs xs.length) → (∀ b o, b < s.heap.objs.size → s.heap.get? b = some o → h'.get? b = some o) → Q (.ref s.heap.objs.size) { s with heap := h', toks := tk }) :
    wpAny (model prog w) A (call (.type "set") [.ref l]) Q E s := by
  rcases PySem.F.called_set with ⟨no1, can, ⟨c, tl, mro⟩, made, _, sub, ini⟩
  have many : xs.length = items.size := by rw [← StrsAre.len_eq txt, Array.length_toList]
  have one := PySem.F.typeCall_set_1 (.ref l)
  apply wpAny_call
  apply codeAny_of_tree
  change wpAny _ _ (callAny (.type "set") _) _ _ _
  refine wpAny_pure ⟨Code.quiet_builtin _ (by decide +kernel), codeAny_builtin PySem.F.entry_type_call ?_⟩
  rw [Around.under_plain (weight_type_call_type "set" [.ref l] []) rfl]
  repeat (any_goals first | assumption | wp_step)
  -- the empty set, then its __init__
  refine codeAny_mono (code_tx_new (.ref l) (E := E) (Q1 := fun obj s1 => ∃ led : Bool, (w.params.followText "set-order" = true ∨ led = true) ∧ obj = .ref s.heap.objs.size ∧ s1 = { s with heap := s.heap.push { cls := .type "set", dict := none, data := .set #[] 0 (.fresh 0 0 led) } }) fun led hl => ⟨led, hl, rfl, rfl⟩) ?_
  intro r s1 hr
  match r, hr with
  | .error _, hr => exact hr
  | .ok .next, hr => exact hr.elim
  | .ok .brk, hr => exact hr.elim
  | .ok .cont, hr => exact hr.elim
  | .ok (.ret _), ⟨led, hled, e1, e2⟩ =>
    subst e1 e2
    generalize eo : ({ cls := .type "set", dict := none, data := .set #[] 0 (.fresh 0 0 led) } : Obj) = o
    have new : (s.heap.push o).get? s.heap.objs.size = some o := by
      subst eo
      exact Heap.get?_push_size _ rfl
    have isSet : Shared.TypeIs { s with heap := s.heap.push o } (.ref s.heap.objs.size) "set" := ⟨o, new, by rw [← eo]⟩
    have look := ini.lookup
    have bnd := ini.bind (.ref s.heap.objs.size)
    repeat (any_goals first | assumption | wp_step)
    refine codeAny_mono (codeAny_call_builtin (R := wants (fun r s2 => r = .none ∧ ∃ h' tk, s2 = { s with heap := h', toks := tk } ∧ TxR prog w h' s.heap.objs.size (among xs xs.length) (unlike xs xs.length) ∧
      (∀ b o, b < s.heap.objs.size → s.heap.get? b = some o → h'.get? b = some o)) E) ini.plain PySem.F.entry_set_init (check_set_init_1 isSet ?_)) ?_
    · -- the walk over the list
      subst eo
      rcases hl with ⟨⟨ocl, odc, odt, osl⟩, hol, hcl, nl, hdl⟩
      dsimp only at hcl hdl
      subst hcl hdl
      have hol2 : (s.heap.push { cls := .type "set", dict := none, data := .set #[] 0 (.fresh 0 0 led) }).get? l = some { cls := .type "tuple", dict := odc, data := .seq items nl, slots := osl } := Heap.get?_push_of_some _ hol
      have asList : (s.heap.push { cls := .type "set", dict := none, data := .set #[] 0 (.fresh 0 0 led) }).IsTuple l items := ⟨_, hol2, rfl, nl, rfl⟩
      have n1 := PySem.F.sub_tuple_set
      have n2 := PySem.F.sub_tuple_frozenset
      have n3 : (Value.type "tuple" == Value.type "dict") = false := by decide
      have below : l < s.heap.objs.size := Heap.lt_size hol
      have sz : (s.heap.push { cls := .type "set", dict := none, data := .set #[] 0 (.fresh 0 0 led) }).objs.size = s.heap.objs.size + 1 := Heap.size_push ..
      unfold Builtin.«set.__init__» noKeywords Builtin.Frozenset.updateFrom
      generalize itr : pyIter = P
      wp_walk
      subst itr
      refine wpAny_pyIter_tuple asList ?_
      refine wpAny_bind (wpAny_runValue ?_)
      have off : s.heap.objs.size ∉ [(s.heap.push { cls := .type "set", dict := none, data := .set #[] 0 (.fresh 0 0 led) }).objs.size, l] := by
        simp only [List.mem_cons, List.not_mem_nil, or_false, not_or]
        exact ⟨fun z => by rw [sz] at z; exact Nat.ne_of_lt (Nat.lt_succ_self _) z, fun z => Nat.ne_of_lt below z.symm⟩
      have few2 : items.size + 1 < scanBound := by omega
      have apart : l ≠ (s.heap.push { cls := .type "set", dict := none, data := .set #[] 0 (.fresh 0 0 led) }).objs.size := fun z => by rw [sz] at z; exact Nat.ne_of_lt (Nat.lt_succ_of_lt below) z
      refine update_tx ((Walks.tuple (by simp [calm] : A.in1.in1.in1.handled = none) _ l apart items).toS) (S := s.heap.objs.size) off (xs := xs) many few2
        (fun i v hv => SS.strs_at txt i v (by rw [Array.getElem?_toList]; exact hv)) items.size 0 _ (by omega) ⟨⟨_, Heap.get?_push_size _ rfl, rfl, rfl⟩, isTup_push asList _⟩ ?_ ?_
      · have got : ((s.heap.push { cls := .type "set", dict := none, data := .set #[] 0 (.fresh 0 0 led) }).push { cls := .type "tuple_iterator", data := .fields #[.ref l, .int 0 0] }).get? s.heap.objs.size = some { cls := .type "set", dict := none, data := .set #[] 0 (.fresh 0 0 led) } := Heap.get?_push_of_some _ new
        exact ⟨_, #[], 0, .fresh 0 0 led, got, ⟨rfl, rfl, rfl⟩, rfl, (fun e he => by simp at he), (fun k => by simp [among]), ⟨by decide, rfl, rfl⟩, List.Pairwise.nil, hled⟩
      · rintro ⟨h', g', d', tk', os'⟩ mv hS
        cases mv.gens
        cases mv.drawn
        cases mv.os
        change wpAny _ _ _ _ _ _
        apply wpAny_pure
        change wpAny _ _ (ret Value.none) _ _ _
        refine wpAny_pure ⟨rfl, h', tk', rfl, by rw [many]; exact hS, fun b u hb e => ?_⟩
        refine mv.heap b u (fun z => ?_) (Heap.get?_push_of_some _ (Heap.get?_push_of_some _ e))
        rcases List.mem_cons.mp z with z | z
        · exact Nat.ne_of_lt hb z
        · have z2 := List.mem_singleton.mp z
          rw [sz] at z2
          exact Nat.ne_of_lt (Nat.lt_succ_of_lt hb) z2
    · intro r2 s2 hr2
      match r2, hr2 with
      | .error _, hr2 => exact hr2
      | .ok .next, hr2 => exact hr2.elim
      | .ok .brk, hr2 => exact hr2.elim
      | .ok .cont, hr2 => exact hr2.elim
      | .ok (.ret _), ⟨e1, h', tk, e2, hS, kept⟩ =>
        subst e1 e2
        repeat (any_goals first | assumption | wp_step)
        exact h _ _ hS kept
end
section
variable {P : Program} {w : World} {A : Around} {E : Value → Shared → Prop} {s : Shared} {a : Addr} {S : Str → Bool} {n : Nat}
/-- sorted(a), a set of texts, fewer than 64 -/
theorem sorted_txM {Q : Value → Shared → Prop} (R : TxR P w s.heap a S n) (calm : A.handled = none) (few : n < 64)
    (hQ : ∀ (s' : Shared) (p : Addr) (out : Array Value) (c : Nat) (ys : List Str), (∀ b o, s.heap.get? b = some o → s'.heap.get? b = some o) → s'.gens = s.gens → s'.os = s.os → s.heap.objs.size ≤ p →
      s'.heap.get? p = some (seqObj "list" out c) → StrsAre out.toList ys → ys.length = n → (∀ z, z ∈ ys ↔ S z = true) → sortedS ys = true → Q (.ref p) s') : wpAny (model P w) A (call (.builtin "sorted") [.ref a]) Q E s := by
  obtain ⟨o, es, ep, t, ho, hx, hd, el, mem, ⟨fw, fit, hn⟩, ri, le⟩ := R
  apply Calls.call_function_entry kind_sorted plain_sorted entry_sorted (args_sorted1 _)
  unfold Builtin.«sorted»
  apply wpAny_bind (m := checkCount "sorted" 1 1 _)
  apply wpAny_pure
  apply wpAny_bind
  refine collect_set (A := A.in1) calm ⟨o, ho, hx.1, hd⟩ fit fw ri le fun s1 vs k1 hz g1 o1 pm => ?_
  have len : vs.length = n := by
    rw [pm.length_eq, List.length_map, Array.length_toList]
    exact hn
  obtain ⟨ks, hK⟩ := strsAre_some vs fun v hv => by
    obtain ⟨e, he, q⟩ := List.mem_map.mp (pm.mem_iff.mp hv)
    obtain ⟨k, t, q2⟩ := elem_str (P := P) (w := w) (let ⟨⟨k, hk, _⟩, _⟩ := el e he; ⟨k, hk⟩)
    exact ⟨k, t, q.symm.trans q2⟩
  apply wpAny_bind
  apply wpAny_newList ?_ (by rw [len, sizeLine_eq]; omega)
  have new : (s1.heap.push (seqObj "list" vs.toArray 0)).get? s1.heap.objs.size = some (seqObj "list" vs.toArray 0) := Heap.get?_push_size _ rfl
  apply wpAny_bind
  apply wpAny_holding
  refine wpAny_call_entry slot_list_sort ⟨_, new, rfl⟩ entry_list_sort (list_sort_treeK strKind_oneLt new hK.keysOf (fun v1 v2 rest e => keyKind_strs (by rw [← e]; exact hK)) (by rw [len]; exact few) fun st' hp hs => ?_) (args_list_sort _)
  obtain ⟨ys, y1, y2, y3⟩ := sorted_out_str hK hp hs
  obtain ⟨c, hc⟩ := sortedHeap_at (vs := vs) (out := (arrOf st').map (·.2)) new
  refine ⟨_, rfl, wpAny_pure ⟨_, rfl, hQ _ s1.heap.objs.size _ c ys (fun b u e => ?_) g1 o1 hz hc y1 ?_ (fun z => ?_) y3⟩⟩
  · have q := k1 b u e
    have lt := Heap.lt_size q
    show (sortedHeap (s1.heap.push (seqObj "list" vs.toArray 0)) s1.heap.objs.size vs _).get? b = some u
    rw [sortedHeap_old (Nat.ne_of_lt lt) (by rw [size_push']; exact Nat.lt_succ_of_lt lt)]
    exact Heap.get?_push_of_some _ q
  · rw [y2.length_eq, ← StrsAre.len_eq hK, len]
  · rw [y2.mem_iff]
    refine Iff.trans ?_ (mem z).symm
    constructor
    · intro hz'
      obtain ⟨tk, hv⟩ := strsAre_mem hK hz'
      obtain ⟨e, he, q⟩ := List.mem_map.mp (pm.mem_iff.mp hv)
      exact ⟨e, he, by rw [q]; exact strKind_is _ _ _ _⟩
    · rintro ⟨e, he, hk⟩
      have hk' : Value.isStrOf z e.2 = true := hk
      obtain ⟨tk, ht⟩ := Value.isStrOf_shape hk'
      exact strsAre_back hK (pm.mem_iff.mpr (List.mem_map.mpr ⟨e, he, ht⟩))
end
section
variable {X : Cx}
def tSortSetT (K : PySem.W.Frag) (ta : TE) : TE := fun σ H Q => ta σ H fun x H1 => ∃ l, ∃ xs : List Str, x = .ref l ∧ SqT K H1 l (xs.map V.str) ∧ xs.length < 64 ∧ ∀ p (ys : List Str), ys.length = unlike xs xs.length → (∀ z, z ∈ ys ↔ z ∈ xs) → sortedS ys = true → H1 p = none → Q (.ref p) (upd H1 p (.lst (ys.map V.str)))
/-- sorted(set(xs)), xs a tuple of texts: what stands in it, too -/
theorem pe_sortSetT {a : Expr} {ta : TE} {p p2 q pos : Pos} (hc : X.calm = true) (hg : Gl X "sorted") (hm : X.mg "sorted" = none) (hg2 : Gl X "set") (hm2 : X.mg "set" = none) (ha : PE X a ta)
    (na : starEach [a] X.env = (false, eval a X.env) :: starEach [] X.env := by rfl) : PE X (.Call (.Name "sorted" p) [.Call (.Name "set" p2) [a] [] q] [] pos) (tSortSetT X.K ta) := by
  constructor
  intro pins s σ H Q I h
  refine Call_ (ld_blt I hg hm (show bootBuiltins "sorted" = some (.builtin "sorted") by rfl) ?_)
  refine PyProof.Rows.callWith_builtin1 (PyProof.Rows.args_cons ?_ rfl) rfl rfl
  refine Call_ (ld_blt I hg2 hm2 boot_set ?_)
  refine PyProof.Rows.callWith_type1 (PyProof.Rows.args_cons (thn (ha.run pins s σ H _ I h) fun v s1 ⟨x, H1, I1, r1, q1⟩ => PyProof.Rows.args_nil ?_) na) na rfl
  obtain ⟨l, xs, rfl, hq, h1, q1⟩ := q1
  cases r1
  obtain ⟨its, r, pl, hz⟩ := I1.tuple hq
  have sb : scanBound = 4096 := rfl
  have ul := unlike_le xs xs.length
  refine set_of_txT (I1.ok.hd hc) pl (xs := xs) (by simpa using strsAre_of r) (by omega) fun h' tk hS hk => ?_
  apply PyProof.Rows.args_nil
  have I2 : Inv X pins σ H1 { s1 with heap := h', toks := tk } := I1.kept fun b o e => hk b o (Heap.lt_size e) e
  refine sorted_txM (s := { s1 with heap := h', toks := tk }) hS (I1.ok.hd hc) (by omega) fun s' p out c ys k g o hp hg hi hl hmem hsrt => ?_
  have hn : H1 p = none := I2.hok.fresh hp
  have hlen : (ys.map V.str).length ≤ sizeLine := by
    rw [List.length_map, hl, sizeLine_eq]
    omega
  have J : Inv X pins σ (upd H1 p (.lst (ys.map V.str))) { ({ s1 with heap := h', toks := tk } : Shared) with heap := s'.heap, gens := s'.gens, drawn := s'.drawn, toks := s'.toks } :=
    I2.call (ch := []) (Un.laid k hp hn) (I2.hok.laid k hp ⟨hlen, out.toList, c, vals_of_strs hi, hg⟩) (by rw [g]; exact I2.bare) (fun _ z => nomatch z)
  have e : s' = { ({ s1 with heap := h', toks := tk } : Shared) with heap := s'.heap, gens := s'.gens, drawn := s'.drawn, toks := s'.toks } := by
    cases s'
    cases s1
    cases o
    rfl
  rw [e]
  exact ⟨.ref p, _, J, rfl, q1 p ys hl (fun z => by rw [hmem z]; unfold among; rw [List.take_of_length_le (Nat.le_refl _)]; simp) hsrt hn⟩
end
end Sd

/-! Y1: a lambda without parameters handed to a def that calls it within a try; what it raises is met at the slots as they stand there -/
namespace Sd
open PySem PySem.Spec PyProof.Rows L2 LamX
/-- the context of the def that got the lambda, entered from X at s -/
abbrev cxG (X : Cx) (Ng : List Str) (x : Str) (sg : Scope) (g : Addr) (cdg : Value) (s : Shared) (H : Hp) : Cx := cxOf C8.CX0 X.prog X.w X.K X.mg X.base Ng x sg g cdg X.A X.stack s H C8.E0
section
variable {X : Cx} {pins : List (Addr × Obj)} {σ : L2.St} {H : Hp} {s : Shared}
/-- a() there: tl tells the lambda's reading, by what is wished of what it raises -/
theorem pe_actS {Ng : List Str} {qg : Str} {sg : Scope} {g f c' : Addr} {cdg pm ctv : Value} {params : Arguments} {body : Expr} {scope : Scope} {k i : Nat} {a : Str} {pn : List (Addr × Obj)} {xe : Value → Shared → Prop} {W : WX} {tb : XK → TE} {p1 p2 : Pos}
    (I : Inv X pins σ H s) (L : LamS X.env.scope scope) (hf : s.heap.get? f = some (PySem.W.kla_obj "<lambda>" (X.env.qual ++ "<lambda>") params body scope (cloFrom X.env.cells scope.names []) pm c' ctv)) (nf : H f = none) (ff : f ∉ frs X.stack)
    (bind : bindArgs (PySem.W.kla_fn "<lambda>" (X.env.qual ++ "<lambda>") params body scope (cloFrom X.env.cells scope.names []) pm (.ref c') ctv) ⟨[], []⟩ = pure [])
    (tk : Takes ((cxG X Ng qg sg g cdg s H).tr pn xe) W) (hr : Room (k + 1) (X.A.deeper (envOfC qg sg s.heap.objs.size g cdg)))
    (rd : ∀ (A : Around) (outer : List Env) (s : Shared) (H : Hp) (E : XK), Room k (A.deeper (lamEnv X scope s.heap.objs.size f c')) → PE (lamCx X A outer s H E scope f c') body (tb E))
    (at_ : Ng[i]? = some a) (vis : Vis sg a) (n1 : (a == ("__debug__" : Str)) = false := by decide) (n2 : (a == ("__classdict__" : Str)) = false := by decide) :
    PE ((cxG X Ng qg sg g cdg s H).tr pn xe) (.Call (.Name a p1) [] [] p2) (fun τ G Q => τ[i]? = some (some (.ref f)) ∧ G c' = some (CodeO c' (X.env.qual ++ "<lambda>")) ∧ tb (WE W τ) σ G Q) := by
  constructor
  rintro pz sz τ G Q IZ ⟨slot, code, told⟩
  have name := (pe_var (X := (cxG X Ng qg sg g cdg s H).tr pn xe) (pos := p1) (i := i) at_ vis n1 n2).run pz sz τ G (fun v G' => v = .ref f ∧ G' = G) IZ ⟨.ref f, slot, rfl, rfl⟩
  apply wpAny_Call_Name_kw
  refine thn name ?_
  rintro u s1 ⟨v, G', J, rv, rfl, rfl⟩
  cases rv
  have stays : s1.heap.get? f = some (PySem.W.kla_obj "<lambda>" (X.env.qual ++ "<lambda>") params body scope (cloFrom X.env.cells scope.names []) pm c' ctv) := J.base.keep f _ hf nf ff fun z => nomatch (show f ∈ ([] : List Addr) from z)
  refine PySem.W.callWith_F0 ⟨_, _, _, _, stays⟩ ?_
  have since : Un (frs X.stack) [] H G' s.heap s1.heap := J.base
  obtain ⟨⟨oc, vs, t, h1, h2, h3⟩, _, _⟩ := J.hok c' _ code
  apply wpAny_call
  have ran : codeAny (model X.prog X.w) (X.A.deeper (envOfC qg sg s.heap.objs.size g cdg)) (.call (.ref f) ⟨[], []⟩) (CR (L2.CX X.prog X.w) (envOfC qg sg s.heap.objs.size g cdg :: X.stack) X.prog X.w G' s1 Q (WE W τ)) s1 := by
    apply PySem.W.kla_callFunE hr.depth stays rfl L.co L.gen rfl ⟨c', oc, vs, t, rfl, h1, h2, h3⟩
    rw [bind]
    apply wpAny_pure
    refine wpAny_newFunctionEnv (fun y hy => (L.own y hy).2) (fun y hy => absurd hy (by simp)) (fun hh ns sb => ⟨J.nolimit.fresh _ sb, ?_⟩) L.kind
    change codeAny _ _ (.expr body (lamEnv X scope s1.heap.objs.size f c')) _ _
    have kept : ∀ b o, s1.heap.get? b = some o → hh.get? b = some o := fun b o e => sb.extBut b o (Nat.ne_of_lt (Heap.lt_size e)) (Heap.get?_push_of_some _ e)
    have began : Inv (lamCx X (X.A.deeper (envOfC qg sg s.heap.objs.size g cdg)) (envOfC qg sg s.heap.objs.size g cdg :: X.stack) s1 G' (WE W τ) scope f c') [] σ G' { s1 with heap := hh, toks := s1.toks + ([] : List (Str × Value)).length } := lam_start2 I L J.env0 hr.hd since ns kept
    apply PySem.W.kla_codeExpr
    refine wpAny_mono ((rd _ _ s1 G' (WE W τ) (hr.deeper _)).run [] _ _ G' Q began told) ?_ fun _ _ y => y
    rintro v s' ⟨w', G2, J2, rv, q⟩
    exact ⟨w', G2, J2.os, J2.bare, J2.base, J2.hok, rv, q⟩
  refine codeAny_mono ran ?_
  intro r s' y
  match r, y with
  | .error e, y => exact tk e s' (XE.of_call J (fun _ _ _ h => h) y)
  | .ok (.ret _), y => exact J.after y
  | .ok .next, y => exact y.elim
  | .ok .brk, y => exact y.elim
  | .ok .cont, y => exact y.elim
end
section
variable {X : Cx} {pins : List (Addr × Obj)} {σ : L2.St} {H : Hp} {s : Shared}
/-- a lambda made: its function object is not told, its code object stands in the table at P -/
theorem lam_go {c P : Addr} {q : Str} {params : Arguments} {body : Expr} {scope : Scope} {pos : Pos} {E : Value → Shared → Prop} {Q : Value → Shared → Prop} (I : Inv X pins σ H s) (TB : TabB X.base X.mg c P) (hcode : X.env.code = .ref c) (hq : X.env.qual ++ "<lambda>" = q) (tab : TabS H P q)
    (hdef : defaultsOf params X.env = ([], [])) (hfree : ∀ y ∈ scope.names, y.2 = .free → ∃ c, X.env.cells.lookup y.1 = some c)
    (k : ∀ (f d : Addr) (pm ctv : Value) (H1 : Hp) (s' : Shared), Inv X pins σ H1 s' → Go [P] H H1 → TabS H1 P q → s'.heap.get? f = some (PySem.W.kla_obj "<lambda>" q params body scope (cloFrom X.env.cells scope.names []) pm d ctv) → H1 f = none → f ∉ frs X.stack → H1 d = some (CodeO d q) → Q (.ref f) s') :
    wpAny (model X.prog X.w) X.A (eval (.Lambda params body scope pos) X.env) Q E s := by
  subst hq
  obtain ⟨rows, atP, tri, known⟩ := id tab
  have inP : s.heap.get? P = some (PySem.W.tabObj rows) := I.hok P _ atP
  have blt := TB.bm.keeps I.bk
  have cod := TB.code.keeps I.bk
  have glb := I.mod.glob.keeps I.bk
  have off : ∀ f, s.heap.objs.size ≤ f → f ∉ frs X.stack := fun f hf z => by
    rcases List.mem_cons.mp (I.stkSub _ z) with e | e
    · have h1 := I.lt
      rw [← e] at h1
      exact Nat.lt_irrefl _ (Nat.lt_of_lt_of_le h1 hf)
    · exact I.nofs hf e
  apply PySem.W.kla_eval hdef
  cases found : codeAmong pos rows.toList with
  | some v =>
    rcases known pos v found with ⟨d, rfl, hd⟩
    refine PySem.W.kla_makeFunctionHit (closure_ok hfree) I.ok.glob glb hcode cod inP tri found blt fun ct g tk old sz => ?_
    have J := I.kept (t' := tk) (h' := g.push (PySem.W.kla_obj "<lambda>" (X.env.qual ++ "<lambda>") params body scope (cloFrom X.env.cells scope.names []) ((X.mg "__name__").getD .none) d ct)) fun b u e => Heap.get?_push_of_some _ (old b u e)
    exact k g.objs.size d ((X.mg "__name__").getD .none) ct H _ J (Go.refl _ _) tab (Heap.get?_push_size _ rfl) (I.hok.fresh sz) (off _ sz) hd
  | none =>
    refine PySem.W.kla_makeFunction (closure_ok hfree) I.ok.glob glb hcode cod inP tri found TB.gP blt fun d ct g tk but lo hi rec table => ?_
    rcases rec with ⟨_, oc, us, t, e, hoc, hus, hname⟩
    cases e
    generalize er : rows ++ #[rawInt pos.line, rawInt pos.col, .ref d] = rows2 at table
    have listed : rows2.toList = rows.toList ++ [rawInt pos.line, rawInt pos.col, .ref d] := by
      rw [← er]
      simp
    have noneD : H d = none := I.hok.fresh lo
    have noneF : H g.objs.size = none := I.hok.fresh (by omega)
    have J0 := inv_table (t' := tk) (q := X.env.qual ++ "<lambda>") I atP but (er ▸ table) lo ⟨oc, us, t, hoc, hus, hname⟩
    rw [er] at J0
    have J := J0.kept (t' := tk) (h' := g.push (PySem.W.kla_obj "<lambda>" (X.env.qual ++ "<lambda>") params body scope (cloFrom X.env.cells scope.names []) ((X.mg "__name__").getD .none) d ct)) fun b u e => Heap.get?_push_of_some _ e
    have f1 : P ≠ d := ne_of_none atP noneD
    have f2 : P ≠ g.objs.size := ne_of_none atP noneF
    have f3 : g.objs.size ≠ d := Nat.ne_of_gt hi
    generalize eh : upd (upd H P (.tbl rows2)) d (CodeO d (X.env.qual ++ "<lambda>")) = H2 at J
    have inD : H2 d = some (CodeO d (X.env.qual ++ "<lambda>")) := by rw [← eh, upd_same]
    have inT : H2 P = some (.tbl rows2) := by rw [← eh, upd_ne f1, upd_same]
    have outF : H2 g.objs.size = none := by rw [← eh, upd_ne f3, upd_ne f2.symm, noneF]
    have same : ∀ b u, b ≠ P → H b = some u → H2 b = some u := fun b u n e => by
      rw [← eh, upd_ne (ne_of_none e noneD), upd_ne n]
      exact e
    have offP : ∀ {b : Addr} {u : HO}, H b = some u → (∀ r, u ≠ .tbl r) → b ≠ P := fun e n z => n rows (Option.some.inj (e.symm.trans (z ▸ atP)))
    have tab2 : TabS H2 P (X.env.qual ++ "<lambda>") := by
      refine ⟨rows2, inT, by rw [listed]; exact PySem.TriplesOk_snoc _ _ _ _ tri, fun p v hv => ?_⟩
      rw [listed] at hv
      rcases among_app _ tri hv with y | rfl
      · rcases known p v y with ⟨b, rfl, hb⟩
        exact ⟨b, rfl, same _ _ (offP hb codeO_ne) hb⟩
      · exact ⟨d, rfl, inD⟩
    refine k g.objs.size d ((X.mg "__name__").getD .none) ct H2 _ J ⟨fun b u hb e => same b u (by simpa using hb) e, fun b u hf e => same b u (offP e fun r z => ?_) e⟩ tab2 (Heap.get?_push_size _ rfl) outF (off _ (by omega)) inD
    rw [z] at hf
    cases hf
end
/-- what the def makes of the lambda's reading: TT -/
def GivesS (X : Cx) (Ng : List Str) (x : Str) (sg : Scope) (g : Addr) (cdg : Value) (bg : List Stmt) (a : Str) (q : Str) (TT : (XK → Hp → VK → Prop) → Hp → VK → Prop) : Prop :=
  ∀ (f c' : Addr) (s : Shared) (H : Hp) (Q : VK) (tl : XK → Hp → VK → Prop),
    (∀ (W : WX) (pn : List (Addr × Obj)) (xe : Value → Shared → Prop) (p1 p2 : Pos), Takes ((cxG X Ng x sg g cdg s H).tr pn xe) W → PE ((cxG X Ng x sg g cdg s H).tr pn xe) (.Call (.Name a p1) [] [] p2) (fun τ G Q => τ[0]? = some (some (.ref f)) ∧ G c' = some (CodeO c' q) ∧ tl (WE W τ) G Q)) →
    H c' = some (CodeO c' q) → TT tl H Q → ∃ t, PSs (cxG X Ng x sg g cdg s H).nox bg t ∧ t { nx := fun _ H' => Q .non H', rt := Q } (L2.start Ng [.ref f]) H
def tLamG (P : Addr) (q : Str) (TT : (XK → Hp → VK → Prop) → Hp → VK → Prop) (t : XK → TE) : TE := fun σ H Q => TabS H P q ∧ ∀ H1, Go [P] H H1 → TabS H1 P q → TT (fun E H' Q' => t E σ H' Q') H1 Q
section
variable {X : Cx}
/-- x(lambda: body) -/
theorem pe_lamS {q : Str} {TT : (XK → Hp → VK → Prop) → Hp → VK → Prop} {x a : Str} {g c P : Addr} {k : Nat} {pg : Arguments} {bg : List Stmt} {sg : Scope} {dV kV doc pm cdv ct oc : Value} {an od : Option Addr} {osl : Array (Option Value)} {Ng : List Str}
    {params : Arguments} {body : Expr} {scope : Scope} {t : XK → TE} {p lpos pos : Pos} (hg : Gl X x) (hm : X.mg x = some (.ref g)) (hk : PySem.W.keepIn X.K (.ref g) = true)
    (lk : X.K.lookup g = some ⟨oc, od, .func (PySem.W.fnOf x x pg bg sg dV kV doc pm an cdv ct), osl⟩) (hcg : PySem.W.codeIn X.K cdv x = true) (hb : L2.Binds X.K (PySem.W.fnOf x x pg bg sg dV kV doc pm an cdv ct) [a] []) (Sg : FnScope Ng [a] sg) (at_ : Ng[0]? = some a) (vis : Vis sg a)
    (gives : GivesS X Ng x sg g cdv bg a (X.env.qual ++ "<lambda>") TT) (TB : TabB X.base X.mg c P) (code : X.env.code = .ref c) (hq : X.env.qual ++ "<lambda>" = q) (hr : Room (k + 2) X.A) (L : LamS X.env.scope scope) (dflt : defaultsOf params X.env = ([], []))
    (bind : ∀ (q : Str) (cl : List (Str × Addr)) (pm cv ctv : Value), bindArgs (PySem.W.kla_fn "<lambda>" q params body scope cl pm cv ctv) ⟨[], []⟩ = pure [])
    (rd : ∀ (A : Around) (outer : List Env) (s : Shared) (H : Hp) (E : XK) (f c' : Addr), Room k (A.deeper (lamEnv X scope s.heap.objs.size f c')) → PE (lamCx X A outer s H E scope f c') body (t E))
    (n0 : (x == ("__debug__" : Str)) = false := by decide) (n1 : (a == ("__debug__" : Str)) = false := by decide) (n2 : (a == ("__classdict__" : Str)) = false := by decide) : PE X (.Call (.Name x p) [.Lambda params body scope lpos] [] pos) (tLamG P q TT t) := by
  subst hq
  constructor
  rintro pins s σ H Q I ⟨hT, h⟩
  apply wpAny_Call_Name_kw
  apply ld_glob I hg hm ?_ n0
  refine PySem.W.callWith_K (h₀ := X.base) I.ok.mod.kin hk ?_ (by rfl) (by rfl)
  change wpAny _ _ (spliced ((false, eval (.Lambda params body scope lpos) X.env) :: backTo pos (starEach [] X.env))) _ _ s
  refine Calls.spliced_cons (lam_go I TB code rfl hT dflt (L.has I.ok) fun f c' pm' ctv H1 s' J eN T1 hf nf ff co => ?_)
  refine Calls.spliced_nil ⟨J.kIn, ?_⟩
  apply wpAny_call
  have ran : codeAny (model X.prog X.w) X.A (.call (.ref g) ⟨[.ref f], []⟩) (CR C8.CX0 X.stack X.prog X.w H1 s' Q C8.E0) s' := by
    refine run_ofS (N := Ng) (ps := [a]) (us := [.ref f]) (vs := [.ref f]) lk hcg Sg hr J.env0 (hb s' [.ref f] J.kIn rfl) (.cons rfl .nil) rfl fun room => ?_
    obtain ⟨t2, b1, b2⟩ := gives f c' s' H1 Q (fun E H' Q' => t E σ H' Q') (fun W pn xe p1 p2 tk => pe_actS (i := 0) J L hf nf ff (bind _ _ _ _ _) tk room (fun A outer s H E room2 => rd A outer s H E f c' room2) at_ vis n1 n2) co (h H1 eN T1)
    exact ⟨t2, b1.nox, b2⟩
  refine codeAny_mono ran ?_
  intro r s2 y
  match r, y with
  | .error _, y => exact y.elim
  | .ok (.ret _), y => exact J.after y
  | .ok .next, y => exact y.elim
  | .ok .brk, y => exact y.elim
  | .ok .cont, y => exact y.elim
end
end Sd

/-! Y2: methods that may raise; defs that get a lambda; defs whose code object is known -/
namespace Sd
open PySem PySem.Spec PyProof.Rows L2 LamX
theorem passE {X : Cx} {E : XK} (tk : Takes X (fun cls d _ H => E cls d H)) : Passes (L2.CX X.prog X.w) X E := passes_call tk fun _ _ _ _ h => h
section
variable {X : Cx} {c : Wd} {C : Addr} {m : Str} {k : Nat} {ps : List Str} {sp : Sp} {E : XK} {pos apos : Pos} {o e : Expr} {es : List Expr} {ta : TE} {t : TA}
theorem pe_mtE {pl : Sem Bool} (D : MtO c C m k ps sp) (hr : Room k X.A) (hx : Passes (L2.CX X.prog X.w) X E) (he : PE X o ta) (ha : PA X (e :: es) t) (hc : Of X c := by exact ⟨rfl, rfl, rfl, rfl, rfl⟩)
    (hst : starEach (e :: es) X.env = (false, eval e X.env) :: starEach es X.env := by rfl) (hpl : (backTo pos (starEach es X.env)).any (·.1) = false := by rfl)
    (ht : eval (.Call (.Attribute o m apos) (e :: es) [] pos) X.env = (do let ov ← eval o X.env; standAt apos.atName; let (f, first) ← holding [ov] (getMethod ov m pl); callWith pos f first (backTo pos (starEach (e :: es) X.env)) (backToKw pos (keywordEach [] X.env))) := by rfl) :
    PE X (.Call (.Attribute o m apos) (e :: es) [] pos) (tMeth C m sp [] E ta t) := by
  obtain ⟨f, fd, h1, h2, h3, h4⟩ := D
  obtain ⟨c1, c2, c3, c4, c5⟩ := hc
  obtain ⟨P, w, K, mg, base⟩ := c
  dsimp only at c1 c2 c3 c4 c5
  subst c1 c2 c3 c4 c5
  exact pe_meth (pl := pl) he h1 h2 h4 hr h3 .nil hx ha hst hpl ht
end
theorem mt_ofX {c : Wd} {m qual : Str} {C : Addr} {st : Stmt} {N ps : List Str} {k : Nat} {sp : Sp} (F : MtAt c C m qual st ps) (S : FnScope N ps (defScope st)) (len : ∀ vs H Q E, sp vs H Q E → vs.length = ps.length)
    (h : ∀ (f : Addr) (cdv : Value) (A : Around) (out : List Env) (s : Shared) (H : Hp) (vs : List V) (Q : VK) (E : XK), Room k (A.deeper (envOfC qual (defScope st) s.heap.objs.size f cdv)) → sp vs H Q E →
      ∃ t, PSs (cxN c N qual st f cdv A out s H E) (defBody st) t ∧ t { nx := fun _ H' => Q .non H', rt := Q } (L2.start N vs) H) : MtO c C m (k + 1) ps sp := by
  obtain ⟨f, fd, h1, h3, h4⟩ := F.ex
  exact ⟨f, fd, F.cls, h1, h4, h3.okX S len fun cdv A out s H vs Q E hr q => h f cdv A out s H vs Q E hr q⟩
/-- a def that gets a lambda and calls it -/
structure GvO (c : Wd) (x a : Str) (TT : (XK → Hp → VK → Prop) → Hp → VK → Prop) : Prop where
  ex : ∃ (g : Addr) (pg : Arguments) (bg : List Stmt) (sg : Scope) (dV kV doc pm cdv ct oc : Value) (an od : Option Addr) (osl : Array (Option Value)) (Ng : List Str), c.mg x = some (.ref g) ∧ PySem.W.keepIn c.K (.ref g) = true ∧
    c.K.lookup g = some ⟨oc, od, .func (PySem.W.fnOf x x pg bg sg dV kV doc pm an cdv ct), osl⟩ ∧ PySem.W.codeIn c.K cdv x = true ∧ Binds c.K (PySem.W.fnOf x x pg bg sg dV kV doc pm an cdv ct) [a] [] ∧ FnScope Ng [a] sg ∧ Ng[0]? = some a ∧ Vis sg a ∧ ∀ (X : Cx) (q : Str), Of X c → GivesS X Ng x sg g cdv bg a q TT
theorem gv_of {c : Wd} {x a : Str} {st : Stmt} {N : List Str} {TT : (XK → Hp → VK → Prop) → Hp → VK → Prop} (F : At c x x st [a]) (S : FnScope N [a] (defScope st)) (at_ : N[0]? = some a) (vis : Vis (defScope st) a)
    (h : ∀ (X : Cx) (q : Str) (g : Addr) (cdg : Value), Of X c → GivesS X N x (defScope st) g cdg (defBody st) a q TT) : GvO c x a TT := by
  obtain ⟨f, fd, h1, h2, h3⟩ := F
  obtain ⟨oc, od, kV, doc, pm, an, cdv, ct, osl, rfl, lk, hcd⟩ := h2.ex
  exact ⟨f, _, _, _, _, _, _, _, _, _, _, _, _, _, _, h1, h2.kp, lk, hcd, h3, S, at_, vis, fun X q hX => h X q f cdv hX⟩
theorem pe_lamO {X : Cx} {c : Wd} {q : Str} {TT : (XK → Hp → VK → Prop) → Hp → VK → Prop} {x a : Str} {cc P : Addr} {k : Nat} {params : Arguments} {body : Expr} {scope : Scope} {t : XK → TE} {p lpos pos : Pos} (D : GvO c x a TT) (TB : TabB c.base c.mg cc P) (hg : Gl X x) (code : X.env.code = .ref cc)
    (hq : X.env.qual ++ "<lambda>" = q) (hr : Room (k + 2) X.A) (L : LamS X.env.scope scope)
    (rd : ∀ (A : Around) (outer : List Env) (s : Shared) (H : Hp) (E : XK) (f c' : Addr), Room k (A.deeper (lamEnv X scope s.heap.objs.size f c')) → PE (lamCx X A outer s H E scope f c') body (t E)) (hc : Of X c := by exact ⟨rfl, rfl, rfl, rfl, rfl⟩) (dflt : defaultsOf params X.env = ([], []) := by rfl)
    (bind : ∀ (q : Str) (cl : List (Str × Addr)) (pm cv ctv : Value), bindArgs (PySem.W.kla_fn "<lambda>" q params body scope cl pm cv ctv) ⟨[], []⟩ = pure [] := by exact fun _ _ _ _ _ => rfl)
    (n0 : (x == ("__debug__" : Str)) = false := by decide) (n1 : (a == ("__debug__" : Str)) = false := by decide) (n2 : (a == ("__classdict__" : Str)) = false := by decide) : PE X (.Call (.Name x p) [.Lambda params body scope lpos] [] pos) (tLamG P q TT t) := by
  obtain ⟨g, pg, bg, sg, dV, kV, doc, pm, cdv, ct, oc, an, od, osl, Ng, h1, h2, h3, h4, h5, h6, h7, h8, h9⟩ := D.ex
  have gives := h9 X (X.env.qual ++ "<lambda>") hc
  obtain ⟨c1, c2, c3, c4, c5⟩ := hc
  obtain ⟨P0, w, K, mg, base⟩ := c
  dsimp only at c1 c2 c3 c4 c5
  subst c1 c2 c3 c4 c5
  exact pe_lamS hg h1 h2 h3 h4 h5 h6 h7 h8 gives TB code hq hr L dflt bind rd n0 n1 n2
/-- a def whose code object is known, with its table -/
structure FunC (K : PySem.W.Frag) (x qual : Str) (st : Stmt) (f : Addr) (fd : FuncData) (cc : Addr) : Prop where
  ex : ∃ (oc : Value) (od : Option Addr) (kV doc pm : Value) (an : Option Addr) (ct : Value) (osl : Array (Option Value)),
    fd = PySem.W.fnOf x qual (defArgs st) (defBody st) (defScope st) .none kV doc pm an (.ref cc) ct ∧ K.lookup f = some ⟨oc, od, .func fd, osl⟩ ∧ PySem.W.codeIn K (.ref cc) qual = true
  kp : PySem.W.keepIn K (.ref f) = true
def AtC (c : Wd) (x qual : Str) (st : Stmt) (ps : List Str) (cc : Addr) : Prop := ∃ (f : Addr) (fd : FuncData), c.mg x = some (.ref f) ∧ FunC c.K x qual st f fd cc ∧ Binds c.K fd ps []
theorem OkCG.of {c : Wd} {x qual : Str} {st : Stmt} {N ps : List Str} {k : Nat} {sp : Sp} {cc : Addr} (F : AtC c x qual st ps cc) (S : FnScope N ps (defScope st))
    (len : ∀ vs H Q E, sp vs H Q E → vs.length = ps.length)
    (h : ∀ (f : Addr) (A : Around) (out : List Env) (s : Shared) (H : Hp) (vs : List V) (Q : VK) (E : XK), A.guards = some [] →
      Room k (A.deeper (envOfC qual (defScope st) s.heap.objs.size f (.ref cc))) → sp vs H Q E →
      ∃ t, PSs (cxN c N qual st f (.ref cc) A out s H E).nox (defBody st) t ∧ t { nx := fun _ H' => Q .non H', rt := Q } (start N vs) H) : OkG c x (k + 1) ps sp := by
  obtain ⟨f, fd, h1, h2, h3⟩ := F
  obtain ⟨⟨oc, od, kV, doc, pm, an, ct, osl, rfl, lk, hcd⟩, kp⟩ := h2
  refine ⟨f, _, h1, kp, h3, fnG_of lk hcd S len fun A out s H vs Q E g hr q => ?_⟩
  obtain ⟨t, a, b⟩ := h f A out s H vs Q E g hr q
  exact ⟨t, a.nox, b⟩
end Sd

namespace Sd
open PySem PySem.Spec PyProof.Rows L2
def topS (i : Nat) : Stmt := PySem.Challenge.pw_seldomseen_k09_watches_of_any_value.main.body.getD i (.Pass ⟨0, 0, 0, 0⟩)

structure Bi (c : Wd) : Prop where
  len : c.mg "len" = none
  isinstance : c.mg "isinstance" = none
  all : c.mg "all" = none
  sum : c.mg "sum" = none
  list : c.mg "list" = none
  tuple : c.mg "tuple" = none
  int : c.mg "int" = none
  bool : c.mg "bool" = none
  str : c.mg "str" = none
  abs : c.mg "abs" = none
  min : c.mg "min" = none
  max : c.mg "max" = none
  sorted : c.mg "sorted" = none
  repr : c.mg "repr" = none
  set : c.mg "set" = none
  range : c.mg "range" = none
  zip : c.mg "zip" = none
  enumerate : c.mg "enumerate" = none
  reversed : c.mg "reversed" = none

/-- the drawn numbers' pot: three ints, the last one counts -/
def Pot (H : Hp) (p : Addr) (n : Nat) : Prop := ∃ (a b : Int) (k : Nat), H p = some (.lst [.int a, .int b, .int (k : Int)]) ∧ 0 ≤ b ∧ b < 2305843009213693921 ∧ k ≤ n
def spTake : Sp := fun vs H Q _ => ∃ (p : Addr) (n u : Nat), vs = [.ref p, .int (u : Int)] ∧ Pot H p n ∧ n ≤ 2 ^ 30 ∧ 0 < u ∧ u < 2 ^ 29 ∧
  ∀ (r : Nat) (H' : Hp), r < u → Go [p] H H' → Pot H' p (n + 1) → Q (.int (r : Int)) H'
theorem modNat (a : Int) {u : Nat} (h : 0 < u) : ∃ r : Nat, r < u ∧ a % (u : Int) = (r : Int) := by
  have h1 := Int.emod_nonneg a (show (u : Int) ≠ 0 by omega)
  have h2 := Int.emod_lt_of_pos a (show (0 : Int) < u by omega)
  exact ⟨(a % (u : Int)).toNat, by omega, by omega⟩
theorem prime5 (k : Nat) : ∃ (j : Nat) (pr : Int), j < 5 ∧ ((k : Nat) : Int) % 5 = (j : Int) ∧ [V.int 2147483647, V.int 2147483629, V.int 2147483587, V.int 2147483579, V.int 2147483563][j]? = some (.int pr) ∧ 0 < pr ∧ pr < 2 ^ 31 := by
  have h : k % 5 < 5 := Nat.mod_lt _ (by decide)
  refine ⟨k % 5, ?_⟩
  have e : ((k : Nat) : Int) % 5 = ((k % 5 : Nat) : Int) := by omega
  rcases (by omega : k % 5 = 0 ∨ k % 5 = 1 ∨ k % 5 = 2 ∨ k % 5 = 3 ∨ k % 5 = 4) with z | z | z | z | z <;> rw [z] at e ⊢
  · exact ⟨2147483647, by decide, e, rfl, by decide, by decide⟩
  · exact ⟨2147483629, by decide, e, rfl, by decide, by decide⟩
  · exact ⟨2147483587, by decide, e, rfl, by decide, by decide⟩
  · exact ⟨2147483579, by decide, e, rfl, by decide, by decide⟩
  · exact ⟨2147483563, by decide, e, rfl, by decide, by decide⟩
theorem powW {i j : Int} {n : Nat} (h0 : 0 < n) (h : i.natAbs < 2 ^ n) (hj : 0 ≤ j) (hm : ((n : Nat) : Int) * j ≤ 2 ^ 27) : CPowW i j := by
  refine ⟨hj, Int.le_trans (Int.mul_le_mul_of_nonneg_right ?_ hj) hm⟩
  have := PySem.Flt.log2_lt_of h0 h
  unfold Builtin.Int.intBits
  split <;> omega
section
variable {c : Wd}
abbrev s__law_take : Stmt := topS 51
abbrev N__law_take : List Str := ["_law_pot", "_law_upto", "_law_prime", "_law_mixed", "_law_digit"]
abbrev P__law_take : List Str := ["_law_pot", "_law_upto"]
theorem sc__law_take : FnScope N__law_take P__law_take (defScope s__law_take) := ⟨rfl, rfl, rfl, by decide +kernel, rfl, by decide +kernel, by decide +kernel⟩
theorem ok_take (F : At c "_law_take" "_law_take" s__law_take P__law_take) (B : Bi c) : Ok c "_law_take" 1 P__law_take spTake := by
  refine Ok.of F sc__law_take (fun vs H Q E h => ?_) (fun f cdv A out s H vs Q E hr h => ?_)
  · obtain ⟨p, n, u, rfl, _⟩ := h
    rfl
  · obtain ⟨p, n, u, rfl, ⟨a, b, k, hp, hb0, hb1, hk⟩, hn, hu0, huu, q⟩ := h
    have hu1 := hu_of hr
    refine ⟨_, (pss_cons (ps_if (pt_cmpR op_gtU (pe_ixU (K := c.K) hu1 (pv 0) pe_int (fun _ _ => rfl) (fun _ _ => rfl)) pe_int (nomark _)) (pss_cons (ps_set (i := 4) sc__law_take.nd rfl (by first | exact Or.inl rfl | exact Or.inr rfl) (pe_op op_modU (pe_callTy call_intU (by rfl) B.int (by decide +kernel) (pa_cons (pe_ixU (K := c.K) hu1 (pv 0) pe_int (fun _ _ => rfl) (fun _ _ => rfl)) pa_nil)) (pv 1)))
    (pss_cons (ps_asg (pe_op op_fdU (pe_ixU (K := c.K) hu1 (pv 0) pe_int (fun _ _ => rfl) (fun _ _ => rfl)) (pv 1)) (pg_sub (pv 0) pe_int set_list))
    (pss_one (ps_ret (pv 4))))) pss_nil)
    (pss_cons (ps_asg (pe_op (op_addU (K := c.K)) (pe_ixU (K := c.K) hu1 (pv 0) pe_int (fun _ _ => rfl) (fun _ _ => rfl)) pe_int) (pg_sub (pv 0) pe_int set_list))
    (pss_cons (ps_set (i := 2) sc__law_take.nd rfl (by first | exact Or.inl rfl | exact Or.inr rfl) (pe_ixU (K := c.K) hu1 (pe_lst (pa_cons pe_int (pa_cons pe_int (pa_cons pe_int (pa_cons pe_int (pa_cons pe_int pa_nil)))))) (pe_op op_modU (pe_callTy call_intU (by rfl) B.int (by decide +kernel) (pa_cons (pe_ixU (K := c.K) hu1 (pv 0) pe_int (fun _ _ => rfl) (fun _ _ => rfl)) pa_nil)) pe_int) (fun _ _ => rfl) (fun _ _ => rfl)))
    (pss_cons (ps_set (i := 3) sc__law_take.nd rfl (by first | exact Or.inl rfl | exact Or.inr rfl) (pe_op op_modU (pe_op op_powU (pe_callTy call_intU (by rfl) B.int (by decide +kernel) (pa_cons (pe_op (op_addU (K := c.K)) (pe_op (op_addU (K := c.K)) (pe_ixU (K := c.K) hu1 (pv 0) pe_int (fun _ _ => rfl) (fun _ _ => rfl)) (pe_op op_mulU (pe_op op_mulU pe_int (pe_ixU (K := c.K) hu1 (pv 0) pe_int (fun _ _ => rfl) (fun _ _ => rfl))) (pe_ixU (K := c.K) hu1 (pv 0) pe_int (fun _ _ => rfl) (fun _ _ => rfl)))) pe_int) pa_nil)) pe_int) (pv 2)))
    (pss_one (ps_ret (pe_op op_modU (pe_op op_fdU (pe_op op_modU (pe_callTy call_intU (by rfl) B.int (by decide +kernel) (pa_cons (pe_op op_mulU (pv 3) (pe_op (op_addU (K := c.K)) (pe_op op_modU (pe_callTy call_intU (by rfl) B.int (by decide +kernel) (pa_cons (pv 3) pa_nil)) pe_int) (pe_op op_mulU pe_int (pe_ixU (K := c.K) hu1 (pv 0) pe_int (fun _ _ => rfl) (fun _ _ => rfl))))) pa_nil)) pe_int) pe_int) (pv 1)))))))), ?_⟩
    refine .inl ⟨_, rfl, ixL (i := 0) hp rfl (r_gtI ⟨_, rfl, ite2 (fun hc => ?_) (fun hc => ?_)⟩)⟩
    · refine .inl ⟨_, rfl, ixL (i := 0) hp rfl (.inl ⟨_, rfl, ⟨_, rfl, r_mod (by omega) fun r r0 r1 _ => ?_⟩⟩)⟩
      refine .inl ⟨_, rfl, ixL (i := 0) hp rfl ⟨_, rfl, r_fdiv (by omega) (by omega) fun a' _ => ⟨_, rfl, ?_⟩⟩⟩
      refine ⟨p, _, 0, 0, rfl, rfl, hp, rfl, ⟨_, rfl, ?_⟩⟩
      obtain ⟨r', rfl⟩ := Int.eq_ofNat_of_zero_le r0
      exact q r' _ (by omega) (Go.put hp rfl (List.Mem.head _)) ⟨_, b, k, upd_same, hb0, hb1, by omega⟩
    · refine .inl ⟨_, rfl, ixL (i := 2) hp rfl (r_addI ⟨_, rfl, ?_⟩)⟩
      refine ⟨p, _, 2, 2, rfl, rfl, hp, rfl, ?_⟩
      have hp2 : (upd H p (.lst [.int a, .int b, .int ((k + 1 : Nat) : Int)])) p = some (.lst [.int a, .int b, .int ((k + 1 : Nat) : Int)]) := upd_same
      show tSeq _ _ _ _ (upd H p (.lst [.int a, .int b, .int ((k + 1 : Nat) : Int)]))
      generalize hH : upd H p (.lst [.int a, .int b, .int ((k + 1 : Nat) : Int)]) = H2 at hp2 ⊢
      refine .inl ⟨by decide, fun z hz => ?_⟩
      have hzp : z ≠ p := fun e => by subst e; rw [hp2] at hz; cases hz
      have hp3 : ∀ o, (upd H2 z o) p = some (.lst [.int a, .int b, .int ((k + 1 : Nat) : Int)]) := fun o => by rw [upd_ne hzp.symm]; exact hp2
      refine .inl ⟨_, rfl, ixL (i := 2) (hp3 _) rfl (.inl ⟨_, rfl, r_mod (by decide) fun m00 _ _ e00 => ?_⟩)⟩
      obtain ⟨j, pr, hj, e5, hpr, h0, h1⟩ := prime5 (k + 1)
      obtain rfl := e00.trans e5
      refine ixL (i := j) upd_same hpr ?_
      have g0 : Go [p] H H2 := by rw [← hH]; exact Go.put hp rfl (List.Mem.head _)
      have g : Go [p] H (upd H2 z (.lst [.int 2147483647, .int 2147483629, .int 2147483587, .int 2147483579, .int 2147483563])) := g0.trans (Go.new hz)
      have hp4 := hp3 (.lst [.int 2147483647, .int 2147483629, .int 2147483587, .int 2147483579, .int 2147483563])
      generalize upd H2 z _ = H3 at g hp4 ⊢
      have hK : ((k + 1 : Nat) : Int).natAbs < 2 ^ 31 := by omega
      have m1 : CMulW 60017 ((k + 1 : Nat) : Int) := wide_mul (a := 16) (b := 31) (by decide) hK (by decide) (by decide) (by decide)
      have l1 : (60017 * ((k + 1 : Nat) : Int)).natAbs < 2 ^ 47 := wide_lt (a := 16) (b := 31) (by decide) hK
      have m2 : CMulW (60017 * ((k + 1 : Nat) : Int)) ((k + 1 : Nat) : Int) := wide_mul l1 hK (by decide) (by decide) (by decide)
      have l2 : (60017 * ((k + 1 : Nat) : Int) * ((k + 1 : Nat) : Int)).natAbs < 2 ^ 78 := wide_lt l1 hK
      have l3 : CPowW (b + 60017 * ((k + 1 : Nat) : Int) * ((k + 1 : Nat) : Int) + 43) 3 := powW (n := 80) (by decide) (by omega) (by decide) (by decide)
      refine .inl ⟨_, rfl, ixL (i := 1) hp4 rfl ?_⟩
      refine .inl ⟨_, rfl, ixL (i := 2) hp4 rfl (r_mulI m1 ?_)⟩
      refine .inl ⟨_, rfl, ixL (i := 2) hp4 rfl (r_mulI m2 (r_addI (r_addI (.inl ⟨_, rfl, ?_⟩))))⟩
      refine r_pow l3 fun m0 _ => ⟨_, rfl, r_mod h0 fun m n0 n1 _ => ?_⟩
      have m3 : CMulW 89 ((k + 1 : Nat) : Int) := wide_mul (a := 16) (b := 31) (by decide) hK (by decide) (by decide) (by decide)
      refine ⟨_, rfl, _, rfl, .inl ⟨_, rfl, r_mod (by decide) fun m' n2 n3 _ => ?_⟩⟩
      have m4 : CMulW m (m' + 89 * ((k + 1 : Nat) : Int)) := wide_mul (a := 31) (b := 40) (by omega) (by omega) (by decide) (by decide) (by decide)
      refine .inl ⟨_, rfl, ixL (i := 2) hp4 rfl (r_mulI m3 (r_addI (r_mulI m4 (.inl ⟨_, rfl, ?_⟩))))⟩
      refine r_mod (by decide) fun m5 _ _ _ => r_fdiv (by decide) (by decide) fun m6 _ => ⟨_, rfl, r_mod (by omega) fun r r0 r1 _ => ?_⟩
      obtain ⟨r', rfl⟩ := Int.eq_ofNat_of_zero_le r0
      exact q r' _ (by omega) g ⟨a, b, k + 1, hp4, hb0, hb1, by omega⟩
end
end Sd

namespace Sd
open PySem PySem.Spec PyProof.Rows L2 RZ RT

/-- some[take(pot, len(some))] -/
def spOf (c : Wd) : Sp := fun vs H Q _ => ∃ (p l : Addr) (n : Nat) (xs : List V), vs = [.ref p, .ref l] ∧ Pot H p n ∧ n ≤ 2 ^ 30 ∧ xs ≠ [] ∧ xs.length < 2 ^ 29 ∧
  ((l ≠ p ∧ H l = some (.lst xs)) ∨ SqT c.K H l xs) ∧ ∀ (r : Nat) (v : V) (H' : Hp), xs[r]? = some v → Go [p] H H' → Pot H' p (n + 1) → Q v H'
/-- what tells of a thing a truth -/
def spB (c : Wd) (P f : PyData → Bool) : Sp := fun vs H Q _ => ∃ v d, vs = [v] ∧ Dp c.K H v d ∧ P d = true ∧ ∀ H', Go [] H H' → Q (.bl (f d)) H'
def isInteger : PyData → Bool | .int _ => true | _ => false
def isIn (a b : Int) : PyData → Bool | .int i => decide (a ≤ i) && decide (i ≤ b) | _ => false
def spIn (c : Wd) : Sp := fun vs H Q _ => ∃ v d a b, vs = [v, .int a, .int b] ∧ Dp c.K H v d ∧ ∀ H', Go [] H H' → Q (.bl (isIn a b d)) H'
/-- texts are not too long -/
def szT : PyData → Bool | .str s => decide (s.length ≤ 100000) | _ => true
def lettersZ : Str := "abcdefghijklmnopqrstuvwxyz"
def isNameS (s : Str) : Bool := (decide (1 ≤ s.length) && decide (s.length ≤ 8)) && s.cps.toList.all fun c => decide (c ∈ lettersZ.cps.toList)
def isName : PyData → Bool | .str s => isNameS s | _ => false
structure Bc (c : Wd) : Prop where
  LONGEST_NAME : ∃ t, c.mg "LONGEST_NAME" = some (.int 8 t)
  LETTERS : ∃ t, c.mg "LETTERS" = some (.str lettersZ t)

section
variable {c : Wd}
abbrev s_is_integer : Stmt := topS 16
abbrev N_is_integer : List Str := ["value"]
abbrev P_is_integer : List Str := ["value"]
theorem sc_is_integer : FnScope N_is_integer P_is_integer (defScope s_is_integer) := ⟨rfl, rfl, rfl, by decide +kernel, rfl, by decide +kernel, by decide +kernel⟩
theorem ok_is_integer (F : At c "is_integer" "is_integer" s_is_integer P_is_integer) (B : Bi c) : Ok c "is_integer" 1 P_is_integer (spB c (fun _ => true) isInteger) := by
  refine Ok.of F sc_is_integer (fun vs H Q E h => ?_) (fun f cdv A out s H vs Q E hr h => ?_)
  · obtain ⟨v, d, rfl, _⟩ := h
    rfl
  · obtain ⟨v, d, rfl, hd, _, q⟩ := h
    refine ⟨_, (pss_one (ps_ret (pe_and (pe_callB (call_isiU (K := c.K)) (by rfl) B.isinstance (by decide +kernel) (pa_cons (pv 0) (pa_cons (pe_ty "int" "int" (by rfl) B.int (by decide +kernel)) pa_nil))) (pe_one (pe_not (pe_callB (call_isiU (K := c.K)) (by rfl) B.isinstance (by decide +kernel) (pa_cons (pv 0) (pa_cons (pe_ty "bool" "bool" (by rfl) B.bool (by decide +kernel)) pa_nil)))))))), ?_⟩
    refine ⟨_, rfl, r_c (r_nil (r_isInt hd ⟨_, rfl, ?_⟩))⟩
    have q' := q H (Go.refl _ _)
    cases d <;> first
      | exact q'
      | exact ⟨_, rfl, r_c (r_nil (r_isBool hd ⟨_, rfl, q'⟩))⟩

abbrev s_is_integer_in : Stmt := topS 17
abbrev N_is_integer_in : List Str := ["value", "least", "greatest"]
abbrev P_is_integer_in : List Str := ["value", "least", "greatest"]
theorem sc_is_integer_in : FnScope N_is_integer_in P_is_integer_in (defScope s_is_integer_in) := ⟨rfl, rfl, rfl, by decide +kernel, rfl, by decide +kernel, by decide +kernel⟩
theorem ok_is_integer_in (F : At c "is_integer_in" "is_integer_in" s_is_integer_in P_is_integer_in) (B : Bi c) (D_is_integer : Ok c "is_integer" 1 P_is_integer (spB c (fun _ => true) isInteger)) :
    Ok c "is_integer_in" 2 P_is_integer_in (spIn c) := by
  refine Ok.of F sc_is_integer_in (fun vs H Q E h => ?_) (fun f cdv A out s H vs Q E hr h => ?_)
  · obtain ⟨v, d, a, b, rfl, _⟩ := h
    rfl
  · obtain ⟨v, d, a, b, rfl, hd, q⟩ := h
    refine ⟨_, (pss_one (ps_ret (pe_and (pe_f D_is_integer (hr.mono (by decide)) (by rfl) (pa_cons (pv 0) pa_nil)) (pe_one (pe_chain op_le op_le (pv 1) (pv 0) (pv 2)))))), ?_⟩
    refine ⟨_, rfl, v, d, rfl, hd, rfl, fun H' g => ⟨_, rfl, ?_⟩⟩
    have q' := q H' g
    cases d <;> first
      | exact q'
      | skip
    rename_i i
    cases hd
    refine ⟨_, rfl, _, rfl, _, _, rfl, rfl, _, rfl, ite2 (fun h1 => ⟨_, rfl, _, _, rfl, rfl, ?_⟩) (fun h1 => ?_)⟩
    · simp only [isIn, decide_eq_true_eq] at q' h1
      simpa only [h1, decide_true, Bool.true_and] using q'
    · simp only [isIn, decide_eq_true_eq] at q' h1
      simpa only [h1, decide_false, Bool.false_and] using q'

abbrev s_is_name : Stmt := topS 18
abbrev N_is_name : List Str := ["value", "letter"]
abbrev P_is_name : List Str := ["value"]
theorem sc_is_name : FnScope N_is_name P_is_name (defScope s_is_name) := ⟨rfl, rfl, rfl, by decide +kernel, rfl, by decide +kernel, by decide +kernel⟩
theorem ok_is_name (F : At c "is_name" "is_name" s_is_name P_is_name) (B : Bi c) (B' : Bc c) : Ok c "is_name" 1 P_is_name (spB c szT isName) := by
  refine Ok.of F sc_is_name (fun vs H Q E h => ?_) (fun f cdv A out s H vs Q E hr h => ?_)
  · obtain ⟨v, d, rfl, _⟩ := h
    rfl
  · obtain ⟨v, d, rfl, hd, hz, q⟩ := h
    have hu1 := hu_of hr
    have hu5 := hr.u5
    refine ⟨_, (pss_cons (ps_if (PW.pt (pw_or (pt_not (pt_val (pe_callB (call_isiU (K := c.K)) (by rfl) B.isinstance (by decide +kernel) (pa_cons (pv 0) (pa_cons (pe_ty "str" "str" (by rfl) B.str (by decide +kernel)) pa_nil))))) (pw_or1 (pt_not (pt_chain op_le op_le pe_int (pe_callB (call_lenU (K := c.K)) (by rfl) B.len (by decide +kernel) (pa_cons (pv 0) pa_nil)) (pe_gi B'.LONGEST_NAME)))))) (pss_one (ps_ret pe_bl)) pss_nil)
    (pss_one (ps_ret (pe_callB (call_allU (K := c.K) rfl) (by rfl) B.all (by decide +kernel) (pa_cons (pe_lc (own := [("letter", 1)]) rfl sc_is_name.nd (pi_seq (K := c.K) (pv 0)) (blkOk_by (N := N_is_name) (sc := defScope s_is_name) (by decide +kernel)) (fun _ _ _ _ _ => (pg_name (i := 1) sc_is_name.nd rfl (by first | exact Or.inl rfl | exact Or.inr rfl))) (fun _ _ _ _ _ => pts_nil) (fun _ _ _ _ _ => (pe_cmpR (op_inU (K := c.K) hu5) (pv 1) (pe_gs B'.LETTERS) (by rfl)))) pa_nil))))), ?_⟩
    refine ⟨_, rfl, r_c (r_nil (r_isStr hd ⟨_, rfl, ?_⟩))⟩
    have q' := q H (Go.refl _ _)
    cases d <;> first
      | exact q'
      | skip
    cases hd
    rename_i x
    have hx : x.length ≤ sizeLine := Nat.le_trans (by simpa [szT] using hz) (by decide)
    refine ⟨_, rfl, r_nil (r_lenS hx ⟨_, _, rfl, rfl, _, rfl, ite2 (fun h1 => ⟨_, _, rfl, rfl, _, rfl, ite2 (fun h2 => ?_) (fun h2 => ?_)⟩) (fun h1 => ⟨_, rfl, ?_⟩)⟩)⟩
    · have e : isName (.str x) = false := by
        have h2' : ¬ x.length ≤ 8 := by
          simp at h2
          omega
        simp [isName, isNameS, h2']
      rw [e] at q'
      exact q'
    · have e1 : 1 ≤ x.length := by
        have : (1 : Int) ≤ ((x.length : Nat) : Int) := by simpa using h1
        omega
      have e2 : x.length ≤ 8 := by
        simp at h2
        omega
      refine .inr ⟨_, rfl, x, rfl, fun D hD => lc_map walk_sg [] (fun _ _ => True) (fun i y _ => ∃ k, x.cps[i]? = some k ∧ y = .bl (decide (k ∈ lettersZ.cps.toList))) yk_sg
        (show x.length ≤ 100000 by omega) hD (fun _ h => nomatch h) (fun _ _ => trivial) trivial (fun _ _ _ _ _ => trivial) (fun _ _ _ _ _ _ h => h) ?_ ?_⟩
      · rintro i y H1 H2 Fin hi g1 gy _ ⟨rfl, k, hk, rfl⟩ fin
        exact ⟨rfl, _, rfl, r_c (r_inSg (fin _ _ (Go.refl _ _) trivial ⟨k, hk, rfl⟩))⟩
      · intro H1 ys g1 _ hD1 hl hr'
        have ey : ys = (x.cps.toList.map fun k => decide (k ∈ lettersZ.cps.toList)).map V.bl := by
          rw [List.map_map]
          refine list_of (by simpa using hl) fun i y e => ?_
          obtain ⟨k, h1, h2⟩ := hr' i y e
          exact ⟨k, by simpa using h1, h2⟩
        subst ey
        refine r_nil (r_all (SqL.of hD1) ?_)
        have e : isName (.str x) = (x.cps.toList.map fun k => decide (k ∈ lettersZ.cps.toList)).all id := by
          simp [isName, isNameS, e1, e2, List.all_map]
        have q2 := q H1 g1
        rw [e] at q2
        exact q2
    · have e : isName (.str x) = false := by
        have h1' : ¬ 1 ≤ x.length := fun z => h1 (by simp; omega)
        simp [isName, isNameS, h1']
      rw [e] at q'
      exact q'
end
end Sd

namespace Sd
open PySem PySem.Spec PyProof.Rows L2 RZ RT

def ltS (a b : Str) : Bool := decide (a.cps.toList < b.cps.toList)
def ascS (ss : List Str) : Bool := ((ss.zip (ss.drop 1)).map fun p => ltS p.1 p.2).all id
def spAsc (c : Wd) : Sp := fun vs H Q _ => ∃ (a : Addr) (ss : List Str), vs = [.ref a] ∧ SqT c.K H a (ss.map V.str) ∧ ss.length ≤ 100000 ∧ ∀ H', Go [] H H' → Q (.bl (ascS ss)) H'
/-- the texts of a row of things -/
def strsOf : List PyData → List Str
  | [] => []
  | .str s :: ds => s :: strsOf ds
  | _ :: ds => strsOf ds
def szTs : PyData → Bool | .tuple ds => ds.all szT && decide (ds.length ≤ 100000) | _ => true
def ascNames : PyData → Bool | .tuple ds => ds.all isName && ascS (strsOf ds) | _ => false
theorem strs_of_names : ∀ {ds : List PyData}, ds.all isName = true → ds = (strsOf ds).map PyData.str
  | [], _ => rfl
  | d :: ds, h => by
    have h1 : isName d = true ∧ ds.all isName = true := by simpa only [List.all_cons, Bool.and_eq_true] using h
    cases d <;> first
      | exact absurd h1.1 Bool.false_ne_true
      | exact congrArg (PyData.str _ :: ·) (strs_of_names h1.2)

section
variable {c : Wd}
abbrev s_is_ascending : Stmt := topS 19
abbrev N_is_ascending : List Str := ["values", "one", "other"]
abbrev P_is_ascending : List Str := ["values"]
theorem sc_is_ascending : FnScope N_is_ascending P_is_ascending (defScope s_is_ascending) := ⟨rfl, rfl, rfl, by decide +kernel, rfl, by decide +kernel, by decide +kernel⟩
theorem ok_is_ascending (F : At c "is_ascending" "is_ascending" s_is_ascending P_is_ascending) (B : Bi c) : Ok c "is_ascending" 1 P_is_ascending (spAsc c) := by
  refine Ok.of F sc_is_ascending (fun vs H Q E h => ?_) (fun f cdv A out s H vs Q E hr h => ?_)
  · obtain ⟨a, ss, rfl, _⟩ := h
    rfl
  · obtain ⟨a, ss, rfl, hs, hz, q⟩ := h
    refine ⟨_, (pss_one (ps_ret (pe_callB (call_allU (K := c.K) rfl) (by rfl) B.all (by decide +kernel) (pa_cons (pe_lc (own := [("one", 1), ("other", 2)]) rfl sc_is_ascending.nd (pi_zipU (K := c.K) (by rfl) B.zip (pa_cons (pv 0) (pa_cons (pe_slice (sl_U (K := c.K)) (pv 0) (po_some pe_int) po_none) pa_nil))) (blkOk_by (N := N_is_ascending) (sc := defScope s_is_ascending) (by decide +kernel)) (fun _ _ _ _ _ => (pg_tupU (K := c.K) (n := 2) rfl (pgs_cons (pg_name (i := 1) sc_is_ascending.nd rfl (by first | exact Or.inl rfl | exact Or.inr rfl)) (pgs_cons (pg_name (i := 2) sc_is_ascending.nd rfl (by first | exact Or.inl rfl | exact Or.inr rfl)) pgs_nil)))) (fun _ _ _ _ _ => pts_nil) (fun _ _ _ _ _ => (pe_cmpR op_ltU (pv 1) (pv 2) (nomark _)))) pa_nil)))), ?_⟩
    refine ⟨_, rfl, _, rfl, ⟨1, rfl, r_slT hs fun b H1 g1 hb => ?_⟩⟩
    have hb' : SqT c.K H1 b ((ss.drop 1).map V.str) := by
      have : cutV (ss.map V.str) (some ((1 : Nat) : Int)) none = (ss.drop 1).map V.str := by rw [cut_from, List.map_drop]
      rw [← this]
      exact hb
    refine ⟨a, b, _, _, rfl, .inr ⟨g1.sqT hs, hb', fun D hD => ?_⟩⟩
    refine lc_map (walk_zipT (n := (ss.zip (ss.drop 1)).length) (by simp)) [] (fun _ _ => True) (fun i y _ => ∃ p, (ss.zip (ss.drop 1))[i]? = some p ∧ y = .bl (ltS p.1 p.2)) yk_pair
      (by simp; omega) hD (fun _ h => nomatch h) (fun H' g => ⟨g.sqT (g1.sqT hs), g.sqT hb'⟩) trivial (fun _ _ _ _ _ => trivial) (fun _ _ _ _ _ _ h => h) ?_ ?_
    · rintro i y H2 H3 Fin hi g2 g3 _ ⟨T, x1, x2, rfl, hT, rfl, hx, hy⟩ fin
      have hx := hx
      have hy := hy
      dsimp only at hx hy
      rw [List.getElem?_map] at hx hy
      obtain ⟨s1, e1, rfl⟩ := Option.map_eq_some_iff.mp hx
      obtain ⟨s2, e2, rfl⟩ := Option.map_eq_some_iff.mp hy
      refine ⟨T, _, rfl, SqT.of upd_same, rfl, _, _, rfl, _, _, rfl, ?_⟩
      refine ⟨rfl, rfl, _, rfl, _, rfl, .inr ⟨s1, s2, rfl, rfl, fin _ _ g3 trivial ⟨(s1, s2), ?_, rfl⟩⟩⟩
      rw [List.getElem?_zip_eq_some]
      exact ⟨e1, e2⟩
    · intro H2 ys g2 _ hD2 hl hr'
      have ey : ys = ((ss.zip (ss.drop 1)).map fun p => ltS p.1 p.2).map V.bl := by
        rw [List.map_map]
        exact list_of hl fun i y e => hr' i y e
      subst ey
      exact r_nil (r_all (SqL.of hD2) (q H2 (g1.trans g2)))
abbrev s_are_ascending_names : Stmt := topS 20
abbrev N_are_ascending_names : List Str := ["value", "name"]
abbrev P_are_ascending_names : List Str := ["value"]
theorem sc_are_ascending_names : FnScope N_are_ascending_names P_are_ascending_names (defScope s_are_ascending_names) := ⟨rfl, rfl, rfl, by decide +kernel, rfl, by decide +kernel, by decide +kernel⟩
theorem ok_are_ascending_names (F : At c "are_ascending_names" "are_ascending_names" s_are_ascending_names P_are_ascending_names) (B : Bi c) (D_is_name : Ok c "is_name" 1 P_is_name (spB c szT isName))
    (D_is_ascending : Ok c "is_ascending" 1 P_is_ascending (spAsc c)) : Ok c "are_ascending_names" 2 P_are_ascending_names (spB c szTs ascNames) := by
  refine Ok.of F sc_are_ascending_names (fun vs H Q E h => ?_) (fun f cdv A out s H vs Q E hr h => ?_)
  · obtain ⟨v, d, rfl, _⟩ := h
    rfl
  · obtain ⟨v, d, rfl, hd, hz, q⟩ := h
    refine ⟨_, (pss_one (ps_ret (pe_and (pe_callB (call_isiU (K := c.K)) (by rfl) B.isinstance (by decide +kernel) (pa_cons (pv 0) (pa_cons (pe_ty "tuple" "tuple" (by rfl) B.tuple (by decide +kernel)) pa_nil))) (pe_and (pe_callB (call_allU (K := c.K) rfl) (by rfl) B.all (by decide +kernel) (pa_cons (pe_lc (own := [("name", 1)]) rfl sc_are_ascending_names.nd (pi_seq (K := c.K) (pv 0)) (blkOk_by (N := N_are_ascending_names) (sc := defScope s_are_ascending_names) (by decide +kernel)) (fun _ _ _ _ _ => (pg_name (i := 1) sc_are_ascending_names.nd rfl (by first | exact Or.inl rfl | exact Or.inr rfl))) (fun _ _ _ _ _ => pts_nil) (fun _ _ _ _ _ => (pe_f D_is_name (hr.mono (by decide)) (by rfl) (pa_cons (pv 1) pa_nil)))) pa_nil)) (pe_one (pe_f D_is_ascending (hr.mono (by decide)) (by rfl) (pa_cons (pv 0) pa_nil))))))), ?_⟩
    refine ⟨_, rfl, r_c (r_nil (r_isTup hd ⟨_, rfl, ?_⟩))⟩
    have q' := q H (Go.refl _ _)
    cases d <;> first
      | exact q'
      | skip
    rename_i ds
    obtain ⟨a, xs, rfl, hs, hA⟩ := dp_tup_inv hd
    simp only [szTs, Bool.and_eq_true, List.all_eq_true, decide_eq_true_eq] at hz
    have hlen := DpAll.len hA
    refine .inl (.inr ⟨_, rfl, a, rfl, ⟨xs, hs⟩, fun D hD => ?_⟩)
    refine lc_map (walk_tup (xs := xs)) [] (fun _ _ => True) (fun i y _ => ∃ p, ds[i]? = some p ∧ y = .bl (isName p)) yk_at
      (by omega) hD (fun _ h => nomatch h) (fun H' g => g.sqT hs) trivial (fun _ _ _ _ _ => trivial) (fun _ _ _ _ _ _ h => h) ?_ ?_
    · rintro i y H2 H3 Fin hi g2 g3 _ ⟨rfl, hx⟩ fin
      obtain ⟨p, hp, hdp⟩ := DpAll.at hA hx
      refine ⟨rfl, _, rfl, ?_⟩
      exact ⟨y, p, rfl, Dp.go0 g2 hdp, hz.1 p (List.mem_of_getElem? hp), fun H' g => fin _ _ g trivial ⟨p, hp, rfl⟩⟩
    · intro H2 ys g2 _ hD2 hl hr'
      have ey : ys = (ds.map isName).map V.bl := by
        rw [List.map_map]
        exact list_of (by omega) fun i y e => hr' i y e
      subst ey
      refine r_nil (r_all (SqL.of hD2) ⟨_, rfl, ?_⟩)
      have q2 := q H2 g2
      by_cases hn : ds.all isName = true
      · have e1 : (ds.map isName).all id = true := by simpa [List.all_map] using hn
        rw [e1]
        refine iteT ?_
        have e2 := strs_of_names hn
        have hs2 : SqT c.K H2 a ((strsOf ds).map V.str) := by
          have : xs = (strsOf ds).map V.str := DpAll.strs_inv (e2 ▸ hA)
          rw [← this]
          exact g2.sqT hs
        have hl2 : (strsOf ds).length = ds.length := by
          have := congrArg List.length e2
          simpa using this.symm
        refine ⟨_, rfl, a, strsOf ds, rfl, hs2, by omega, fun H' g => ?_⟩
        have q3 := q H' (g2.trans g)
        simp only [ascNames, hn, Bool.true_and] at q3
        exact q3
      · have e1 : (ds.map isName).all id = false := by simpa [List.all_map] using hn
        have e3 : ds.all isName = false := by simpa using hn
        rw [e1]
        simp only [ascNames, e3, Bool.false_and] at q2
        exact iteF q2
end
end Sd

namespace Sd
open PySem PySem.Spec PyProof.Rows L2 RZ RT

/-! ### a machine's parts, as they are passed -/
structure Stp where
  name : Str
  page : Option Str
  fol : List Str
def pgV : Option Str → V
  | none => .non
  | some p => .str p
def pgD : Option Str → PyData
  | none => .none
  | some p => .str p
def namesD (ss : List Str) : PyData := .tuple (ss.map PyData.str)
def IsStp (K : PySem.W.Frag) (H : Hp) (s : Stp) (v : V) : Prop := ∃ b f, v = .ref b ∧ SqT K H b [.str s.name, pgV s.page, .ref f] ∧ SqT K H f (s.fol.map V.str)
theorem IsStp.go {K : PySem.W.Frag} {M : List Addr} {H H' : Hp} {s : Stp} {v : V} (h : IsStp K H s v) (g : Go M H H') : IsStp K H' s v := by
  obtain ⟨b, f, e, h1, h2⟩ := h
  exact ⟨b, f, e, g.sqT h1, g.sqT h2⟩
theorem dpA_strs {K : PySem.W.Frag} {H : Hp} : ∀ ss : List Str, DpAll K H (ss.map V.str) (ss.map PyData.str)
  | [] => .nil
  | s :: ss => .cons (.str s) (dpA_strs ss)
theorem dp_names {K : PySem.W.Frag} {H : Hp} {a : Addr} {ss : List Str} (h : SqT K H a (ss.map V.str)) : Dp K H (.ref a) (namesD ss) := .tup h (dpA_strs ss)
theorem dp_pg {K : PySem.W.Frag} {H : Hp} : ∀ p : Option Str, Dp K H (pgV p) (pgD p)
  | none => .non
  | some p => .str p
theorem IsStp.dp {K : PySem.W.Frag} {H : Hp} {s : Stp} {v : V} (h : IsStp K H s v) : Dp K H v (.tuple [.str s.name, pgD s.page, namesD s.fol]) := by
  obtain ⟨b, f, rfl, h1, h2⟩ := h
  exact .tup h1 (.cons (.str _) (.cons (dp_pg _) (.cons (dp_names h2) .nil)))
/-- names that ascend -/
def namesB (ss : List Str) : Bool := ss.all isNameS && ascS ss
theorem strsOf_map : ∀ ss : List Str, strsOf (ss.map PyData.str) = ss
  | [] => rfl
  | s :: ss => congrArg (s :: ·) (strsOf_map ss)
theorem ascNames_names {ss : List Str} (h : namesB ss = true) : ascNames (namesD ss) = true := by
  simp only [namesB, Bool.and_eq_true] at h
  simp only [ascNames, namesD, strsOf_map, h.2, Bool.and_true, List.all_map]
  exact h.1
theorem name_sz {s : Str} (h : isNameS s = true) : s.length ≤ 8 := by
  simp only [isNameS, Bool.and_eq_true, decide_eq_true_eq] at h
  exact h.1.2
theorem names_sz {ss : List Str} (h : namesB ss = true) (hl : ss.length ≤ 100000) : szTs (namesD ss) = true := by
  simp only [namesB, Bool.and_eq_true, List.all_eq_true] at h
  simp only [szTs, namesD, Bool.and_eq_true, List.all_eq_true, decide_eq_true_eq, List.length_map]
  refine ⟨fun d hd => ?_, hl⟩
  obtain ⟨s, hs, rfl⟩ := List.mem_map.mp hd
  have := name_sz (h.1 s hs)
  simp [szT]
  omega
def pageB : Option Str → Bool
  | none => true
  | some p => isNameS p
def stpB (s : Stp) : Bool := isNameS s.name && (pageB s.page && (namesB s.fol && decide (s.fol.length ≤ 3)))
/-- a right step is one -/
def spStp (c : Wd) : Sp := fun vs H Q _ => ∃ v s, vs = [v] ∧ IsStp c.K H s v ∧ stpB s = true ∧ ∀ H', Go [] H H' → Q (.bl true) H'
structure Bm (c : Wd) : Prop where
  MOST_STEPS : ∃ t, c.mg "MOST_STEPS" = some (.int 8 t)
  MOST_FOLLOWING : ∃ t, c.mg "MOST_FOLLOWING" = some (.int 3 t)
  MOST_TURNS : ∃ t, c.mg "MOST_TURNS" = some (.int 3 t)
  MOST_TICKS : ∃ t, c.mg "MOST_TICKS" = some (.int 3 t)
  LEAST_PAGES : ∃ t, c.mg "LEAST_PAGES" = some (.int 2 t)
  MOST_PAGES : ∃ t, c.mg "MOST_PAGES" = some (.int 4 t)
  MOST_MOVE : ∃ t, c.mg "MOST_MOVE" = some (.int 9 t)
  combinations : c.mg "combinations" = some (.type "itertools.combinations")
section
variable {c : Wd}
abbrev s_is_step : Stmt := topS 43
abbrev N_is_step : List Str := ["value", "name", "page", "following"]
abbrev P_is_step : List Str := ["value"]
theorem sc_is_step : FnScope N_is_step P_is_step (defScope s_is_step) := ⟨rfl, rfl, rfl, by decide +kernel, rfl, by decide +kernel, by decide +kernel⟩
theorem ok_is_step (F : At c "is_step" "is_step" s_is_step P_is_step) (B : Bi c) (B' : Bm c) (D_is_name : Ok c "is_name" 1 P_is_name (spB c szT isName)) (D_are_ascending_names : Ok c "are_ascending_names" 2 P_are_ascending_names (spB c szTs ascNames)) : Ok c "is_step" 3 P_is_step (spStp c) := by
  refine Ok.of F sc_is_step (fun vs H Q E h => ?_) (fun f cdv A out s H vs Q E hr h => ?_)
  · obtain ⟨v, s, rfl, _⟩ := h
    rfl
  · obtain ⟨v, st, rfl, hs, hb, q⟩ := h
    have hu1 := hu_of hr
    have hu := hr.units
    simp only [stpB, Bool.and_eq_true, decide_eq_true_eq] at hb
    obtain ⟨b1, b2, b3, b4⟩ := hb
    refine ⟨_, (pss_cons (ps_if (PW.pt (pw_or (pt_not (pt_val (pe_callB (call_isiU (K := c.K)) (by rfl) B.isinstance (by decide +kernel) (pa_cons (pv 0) (pa_cons (pe_ty "tuple" "tuple" (by rfl) B.tuple (by decide +kernel)) pa_nil))))) (pw_or1 (pt_cmpR (op_neU (K := c.K) hu) (pe_callB (call_lenU (K := c.K)) (by rfl) B.len (by decide +kernel) (pa_cons (pv 0) pa_nil)) pe_int (nomark _))))) (pss_one (ps_ret pe_bl)) pss_nil)
    (pss_cons (ps_asg (pv 0) (pg_tupU (K := c.K) (n := 3) rfl (pgs_cons (pg_name (i := 1) sc_is_step.nd rfl (by first | exact Or.inl rfl | exact Or.inr rfl)) (pgs_cons (pg_name (i := 2) sc_is_step.nd rfl (by first | exact Or.inl rfl | exact Or.inr rfl)) (pgs_cons (pg_name (i := 3) sc_is_step.nd rfl (by first | exact Or.inl rfl | exact Or.inr rfl)) pgs_nil)))))
    (pss_cons (ps_if (PW.pt (pw_or (pt_not (pt_val (pe_f D_is_name (hr.mono (by decide)) (by rfl) (pa_cons (pv 1) pa_nil)))) (pw_or1 (pt_not (PW.pt (pw_or (pt_cmpR op_isN (pv 2) pe_non (nomark _)) (pw_or1 (pt_val (pe_f D_is_name (hr.mono (by decide)) (by rfl) (pa_cons (pv 2) pa_nil)))))))))) (pss_one (ps_ret pe_bl)) pss_nil)
    (pss_one (ps_ret (pe_and (pe_f D_are_ascending_names (hr.mono (by decide)) (by rfl) (pa_cons (pv 3) pa_nil)) (pe_one (pe_cmpR op_le (pe_callB (call_lenU (K := c.K)) (by rfl) B.len (by decide +kernel) (pa_cons (pv 3) pa_nil)) (pe_gi B'.MOST_FOLLOWING) (nomark _))))))))), ?_⟩
    refine ⟨_, rfl, r_c (r_nil (r_isTup hs.dp ⟨_, rfl, ?_⟩))⟩
    refine (if_neg (by simp [isTup])).mpr ?_
    obtain ⟨b, fo, rfl, h1, h2⟩ := id hs
    refine ⟨_, rfl, r_nil (r_lenT h1 ?_)⟩
    refine .inl ⟨rfl, _, rfl, (if_neg (by simp)).mpr ?_⟩
    refine ⟨_, rfl, b, _, rfl, h1, rfl, _, _, rfl, _, _, rfl, _, _, rfl, rfl, ?_⟩
    refine ⟨_, rfl, _, .str st.name, rfl, .str _, by simp [szT]; have := name_sz b1; omega, fun H1 g1 => ⟨_, rfl, ?_⟩⟩
    refine (if_neg (by simp [isName, b1])).mpr ?_
    have rest : ∀ H2, Go [] H H2 → ∀ (Q' : VK), Q' = Q → tAndV (tCall (spB c szTs ascNames) [] E0 (tCons (tVar 3) tNil)) (tOp (fun x y H Q => (rI0 fun i j => .bl (decide (i ≤ j))) x y H Q) (tCB (rLenU c.K) (tCons (tVar 3) tNil)) (tC (.int 3))) [some (.ref b), some (.str st.name), some (pgV st.page), some (.ref fo)] H2 Q' := by
      intro H2 g2 Q' e
      subst e
      have len3 : st.fol.length ≤ 100000 := by omega
      refine ⟨_, rfl, _, namesD st.fol, rfl, dp_names (g2.sqT h2), names_sz b3 len3, fun H3 g3 => ⟨_, rfl, ?_⟩⟩
      rw [ascNames_names b3]
      refine (if_pos rfl).mpr ?_
      refine ⟨_, rfl, r_nil (r_lenT (g3.sqT (g2.sqT h2)) ⟨_, 3, rfl, rfl, ?_⟩)⟩
      have e : decide ((((st.fol.map V.str).length : Nat) : Int) ≤ 3) = true := by simp; omega
      show Q' (.bl (decide ((((st.fol.map V.str).length : Nat) : Int) ≤ 3))) H3
      rw [e]
      exact q _ (g2.trans g3)
    cases hpg : st.page with
    | none =>
      rw [hpg] at rest
      refine ⟨_, rfl, rfl, _, rfl, (if_pos (by simp [pgV])).mpr ?_⟩
      refine (if_neg (by decide)).mpr ?_
      exact rest H1 g1 Q rfl
    | some pg =>
      rw [hpg] at rest b2
      have b2 : isNameS pg = true := b2
      refine ⟨_, rfl, rfl, _, rfl, (if_neg (by simp [pgV])).mpr ?_⟩
      refine ⟨_, rfl, _, .str pg, rfl, .str _, by simp [szT]; have := name_sz b2; omega, fun H2 g2 => ⟨_, rfl, ?_⟩⟩
      refine (if_neg (by simp [isName, b2])).mpr ?_
      exact rest H2 (g1.trans g2) Q rfl
end
end Sd

namespace Sd
open PySem PySem.Spec PyProof.Rows L2 RZ RT

def clockB (ns : List Nat) : Bool := decide (1 ≤ ns.length) && (decide (ns.length ≤ 3) && ns.all fun n => decide (1 ≤ n) && decide (n ≤ 3))
def intsV (ns : List Nat) : List V := ns.map fun (n : Nat) => V.int (n : Int)
theorem dpA_ints {K : PySem.W.Frag} {H : Hp} : ∀ ns : List Nat, DpAll K H (intsV ns) (ns.map fun (n : Nat) => PyData.int (n : Int))
  | [] => .nil
  | n :: ns => .cons (.int _) (dpA_ints ns)
/-- a right clock is one -/
def spClock (c : Wd) : Sp := fun vs H Q _ => ∃ a ns, vs = [.ref a] ∧ SqT c.K H a (intsV ns) ∧ clockB ns = true ∧ ∀ H', Go [] H H' → Q (.bl true) H'
/-- right pages for these steps are some -/
def pagesB (ss : List Stp) (ps : List Str) : Bool := namesB ps && (decide (2 ≤ ps.length) && (decide (ps.length ≤ 4) && ss.all fun s => match s.page with | none => true | some p => decide (p ∈ ps)))
def AreStps (K : PySem.W.Frag) (H : Hp) (a : Addr) (ss : List Stp) : Prop := ∃ vs, SqT K H a vs ∧ vs.length = ss.length ∧ ∀ (i : Nat) (v : V) (s : Stp), vs[i]? = some v → ss[i]? = some s → IsStp K H s v
theorem AreStps.go {K : PySem.W.Frag} {M : List Addr} {H H' : Hp} {a : Addr} {ss : List Stp} (h : AreStps K H a ss) (g : Go M H H') : AreStps K H' a ss := by
  obtain ⟨vs, h1, h2, h3⟩ := h
  exact ⟨vs, g.sqT h1, h2, fun i v s e1 e2 => (h3 i v s e1 e2).go g⟩
def spPages (c : Wd) : Sp := fun vs H Q _ => ∃ a b ss ps, vs = [.ref a, .ref b] ∧ AreStps c.K H a ss ∧ ss.length ≤ 1000 ∧ SqT c.K H b (ps.map V.str) ∧ pagesB ss ps = true ∧ ∀ H', Go [] H H' → Q (.bl true) H'
def setB (ps fs : List Str) : Bool := namesB fs && (decide (1 ≤ fs.length) && (decide (fs.length < ps.length) && fs.all fun f => decide (f ∈ ps)))
def spSet (c : Wd) : Sp := fun vs H Q _ => ∃ a b ps fs, vs = [.ref a, .ref b] ∧ SqT c.K H a (ps.map V.str) ∧ SqT c.K H b (fs.map V.str) ∧ ps.length ≤ 1000 ∧ setB ps fs = true ∧ ∀ H', Go [] H H' → Q (.bl true) H'
theorem flat_strs (ps : List Str) : (ps.map V.str).all flatV = true := by
  rw [List.all_map]
  exact List.all_eq_true.mpr fun _ _ => rfl
theorem inV_strs (p : Str) (ps : List Str) : inV (.str p) (ps.map V.str) = decide (p ∈ ps) := by
  induction ps with
  | nil => rfl
  | cons q ps ih =>
    show (eqV (.str q) (.str p) || inV (.str p) (ps.map V.str)) = _
    rw [ih]
    show ((q == p) || decide (p ∈ ps)) = _
    by_cases h : q = p
    · subst h; simp
    · have h2 : ¬ p = q := fun e => h e.symm
      simp [h, h2]
section
variable {c : Wd}
abbrev s_is_clock : Stmt := topS 45
abbrev N_is_clock : List Str := ["value", "ticks"]
abbrev P_is_clock : List Str := ["value"]
theorem sc_is_clock : FnScope N_is_clock P_is_clock (defScope s_is_clock) := ⟨rfl, rfl, rfl, by decide +kernel, rfl, by decide +kernel, by decide +kernel⟩
theorem ok_is_clock (F : At c "is_clock" "is_clock" s_is_clock P_is_clock) (B : Bi c) (B' : Bm c) (D_is_integer_in : Ok c "is_integer_in" 2 P_is_integer_in (spIn c)) : Ok c "is_clock" 3 P_is_clock (spClock c) := by
  refine Ok.of F sc_is_clock (fun vs H Q E h => ?_) (fun f cdv A out s H vs Q E hr h => ?_)
  · obtain ⟨a, ns, rfl, _⟩ := h
    rfl
  · obtain ⟨a, ns, rfl, hs, hb, q⟩ := h
    have hu1 := hu_of hr
    have hu := hr.units
    simp only [clockB, Bool.and_eq_true, decide_eq_true_eq, List.all_eq_true] at hb
    obtain ⟨b1, b2, b3⟩ := hb
    have hd : Dp c.K H (.ref a) (.tuple (ns.map fun (n : Nat) => PyData.int (n : Int))) := .tup hs (dpA_ints ns)
    have hlen : (intsV ns).length = ns.length := by simp [intsV]
    refine ⟨_, (pss_cons (ps_if (PW.pt (pw_or (pt_not (pt_val (pe_callB (call_isiU (K := c.K)) (by rfl) B.isinstance (by decide +kernel) (pa_cons (pv 0) (pa_cons (pe_ty "tuple" "tuple" (by rfl) B.tuple (by decide +kernel)) pa_nil))))) (pw_or1 (pt_not (pt_chain op_le op_le pe_int (pe_callB (call_lenU (K := c.K)) (by rfl) B.len (by decide +kernel) (pa_cons (pv 0) pa_nil)) (pe_gi B'.MOST_TURNS)))))) (pss_one (ps_ret pe_bl)) pss_nil)
    (pss_one (ps_ret (pe_callB (call_allU (K := c.K) rfl) (by rfl) B.all (by decide +kernel) (pa_cons (pe_lc (own := [("ticks", 1)]) rfl sc_is_clock.nd (pi_seq (K := c.K) (pv 0)) (blkOk_by (N := N_is_clock) (sc := defScope s_is_clock) (by decide +kernel)) (fun _ _ _ _ _ => (pg_name (i := 1) sc_is_clock.nd rfl (by first | exact Or.inl rfl | exact Or.inr rfl))) (fun _ _ _ _ _ => pts_nil) (fun _ _ _ _ _ => (pe_f D_is_integer_in (hr.mono (by decide)) (by rfl) (pa_cons (pv 1) (pa_cons pe_int (pa_cons (pe_gi B'.MOST_TICKS) pa_nil)))))) pa_nil))))), ?_⟩
    refine ⟨_, rfl, r_c (r_nil (r_isTup hd ⟨_, rfl, ?_⟩))⟩
    refine (if_neg (by simp [isTup])).mpr ?_
    refine ⟨_, rfl, r_nil (r_lenT hs ⟨_, _, rfl, rfl, _, rfl, (if_pos (by rw [hlen]; simp; omega)).mpr ⟨_, _, rfl, rfl, _, rfl, ?_⟩⟩)⟩
    refine (if_neg (by rw [hlen]; simp; omega)).mpr ?_
    refine .inl (.inr ⟨_, rfl, a, rfl, ⟨_, hs⟩, fun D hD => ?_⟩)
    refine lc_map (walk_tup (xs := intsV ns)) [] (fun _ _ => True) (fun i y _ => ∃ p, ns[i]? = some p ∧ y = .bl (isIn 1 3 (.int (p : Int)))) yk_at
      (by omega) hD (fun _ h => nomatch h) (fun H' g => g.sqT hs) trivial (fun _ _ _ _ _ => trivial) (fun _ _ _ _ _ _ h => h) ?_ ?_
    · rintro i y H2 H3 Fin hi g2 g3 _ ⟨rfl, hx⟩ fin
      have hx' : ∃ p, ns[i]? = some p ∧ y = .int (p : Int) := by
        simp only [intsV, List.getElem?_map] at hx
        cases h : ns[i]? with
        | none => simp [h] at hx
        | some p => exact ⟨p, rfl, by simpa [h] using hx.symm⟩
      obtain ⟨p, hp, rfl⟩ := hx'
      refine ⟨rfl, _, rfl, ?_⟩

      exact ⟨_, .int (p : Int), 1, 3, rfl, .int _, fun H' g => fin _ _ g trivial ⟨p, hp, rfl⟩⟩
    · intro H2 ys g2 _ hD2 hl hr'
      have ey : ys = (ns.map fun (p : Nat) => isIn 1 3 (.int (p : Int))).map V.bl := by
        rw [List.map_map]
        exact list_of (by omega) fun i y e => hr' i y e
      subst ey
      have e1 : ((ns.map fun (p : Nat) => isIn 1 3 (.int (p : Int)))).all id = true := by
        rw [List.all_map]
        refine List.all_eq_true.mpr fun p hp => ?_
        have := b3 p hp
        simp [isIn]
        omega
      refine r_nil (r_all (SqL.of hD2) ?_)
      rw [e1]
      exact q H2 g2
abbrev s_is_set : Stmt := topS 47
abbrev N_is_set : List Str := ["pages", "value", "page"]
abbrev P_is_set : List Str := ["pages", "value"]
theorem sc_is_set : FnScope N_is_set P_is_set (defScope s_is_set) := ⟨rfl, rfl, rfl, by decide +kernel, rfl, by decide +kernel, by decide +kernel⟩
theorem ok_is_set (F : At c "is_set" "is_set" s_is_set P_is_set) (B : Bi c) (D_are_ascending_names : Ok c "are_ascending_names" 2 P_are_ascending_names (spB c szTs ascNames)) : Ok c "is_set" 3 P_is_set (spSet c) := by
  refine Ok.of F sc_is_set (fun vs H Q E h => ?_) (fun f cdv A out s H vs Q E hr h => ?_)
  · obtain ⟨a, b, ps, fs, rfl, _⟩ := h
    rfl
  · obtain ⟨a, b, ps, fs, rfl, ha, hb, hl, hB, q⟩ := h
    have hu1 := hu_of hr
    have hu := hr.units
    have hu5 := hr.u5
    simp only [setB, Bool.and_eq_true, decide_eq_true_eq, List.all_eq_true] at hB
    obtain ⟨b1, b2, b3, b4⟩ := hB
    have e1 : ((ps.map V.str).length) = ps.length := by simp
    have e2 : ((fs.map V.str).length) = fs.length := by simp
    refine ⟨_, (pss_cons (ps_if (PW.pt (pw_or (pt_not (pt_val (pe_f D_are_ascending_names (hr.mono (by decide)) (by rfl) (pa_cons (pv 1) pa_nil)))) (pw_or1 (pt_not (pt_chain op_le op_ltU pe_int (pe_callB (call_lenU (K := c.K)) (by rfl) B.len (by decide +kernel) (pa_cons (pv 1) pa_nil)) (pe_callB (call_lenU (K := c.K)) (by rfl) B.len (by decide +kernel) (pa_cons (pv 0) pa_nil))))))) (pss_one (ps_ret pe_bl)) pss_nil)
    (pss_one (ps_ret (pe_callB (call_allU (K := c.K) rfl) (by rfl) B.all (by decide +kernel) (pa_cons (pe_lc (own := [("page", 2)]) rfl sc_is_set.nd (pi_seq (K := c.K) (pv 1)) (blkOk_by (N := N_is_set) (sc := defScope s_is_set) (by decide +kernel)) (fun _ _ _ _ _ => (pg_name (i := 2) sc_is_set.nd rfl (by first | exact Or.inl rfl | exact Or.inr rfl))) (fun _ _ _ _ _ => pts_nil) (fun _ _ _ _ _ => (pe_cmpR (op_inU (K := c.K) hu5) (pv 2) (pv 0) (by rfl)))) pa_nil))))), ?_⟩
    refine ⟨_, rfl, _, namesD fs, rfl, dp_names hb, names_sz b1 (by omega), fun H1 g1 => ⟨_, rfl, ?_⟩⟩
    rw [ascNames_names b1]
    refine (if_neg (by simp)).mpr ?_
    refine ⟨_, rfl, r_nil (r_lenT (g1.sqT hb) ⟨_, _, rfl, rfl, _, rfl, (if_pos (by rw [e2]; simp; omega)).mpr ⟨_, rfl, r_nil (r_lenT (g1.sqT ha) ?_)⟩⟩)⟩
    refine r_ltI ⟨_, rfl, ?_⟩
    refine (if_neg (by rw [e1, e2]; simp; omega)).mpr ?_
    have ha1 := g1.sqT ha
    have hb1 := g1.sqT hb
    refine .inl (.inr ⟨_, rfl, b, rfl, ⟨_, hb1⟩, fun D hD => ?_⟩)
    refine lc_map (walk_tup (xs := fs.map V.str)) [] (fun _ _ => True) (fun i y _ => ∃ s : Str, fs[i]? = some s ∧ y = .bl true) yk_at
      (by omega) hD (fun _ h => nomatch h) (fun H' g => g.sqT hb1) trivial (fun _ _ _ _ _ => trivial) (fun _ _ _ _ _ _ h => h) ?_ ?_
    · rintro i y H2 H3 Fin hi g2 g3 _ ⟨rfl, hx⟩ fin
      have hx' : ∃ p, fs[i]? = some p ∧ y = .str p := by
        simp only [List.getElem?_map] at hx
        cases h : fs[i]? with
        | none => simp [h] at hx
        | some p => exact ⟨p, rfl, by simpa [h] using hx.symm⟩
      obtain ⟨p, hp, rfl⟩ := hx'
      refine ⟨rfl, _, rfl, _, rfl, r_inT (g2.sqT ha1) rfl (flat_strs _) ?_⟩
      have e : inV (.str p) (ps.map V.str) = true := by
        rw [inV_strs]
        exact decide_eq_true (b4 p (List.mem_of_getElem? hp))
      rw [e]
      exact fin _ _ (Go.refl _ _) trivial ⟨p, hp, rfl⟩
    · intro H2 ys g2 _ hD2 hl2 hr'
      have ey : ys = (fs.map fun _ => true).map V.bl := by
        rw [List.map_map]
        exact list_of (by omega) fun i y e => by obtain ⟨s, h, h'⟩ := hr' i y e; exact ⟨s, h, h'⟩
      subst ey
      refine r_nil (r_all (SqL.of hD2) ?_)
      have e1 : (fs.map fun _ => true).all id = true := by
        rw [List.all_map]
        exact List.all_eq_true.mpr fun _ _ => rfl
      rw [e1]
      exact q H2 (g1.trans g2)
abbrev s_are_pages : Stmt := topS 46
abbrev N_are_pages : List Str := ["steps", "value", "name", "page", "following"]
abbrev P_are_pages : List Str := ["steps", "value"]
theorem sc_are_pages : FnScope N_are_pages P_are_pages (defScope s_are_pages) := ⟨rfl, rfl, rfl, by decide +kernel, rfl, by decide +kernel, by decide +kernel⟩
theorem ok_are_pages (F : At c "are_pages" "are_pages" s_are_pages P_are_pages) (B : Bi c) (B' : Bm c) (D_are_ascending_names : Ok c "are_ascending_names" 2 P_are_ascending_names (spB c szTs ascNames)) : Ok c "are_pages" 3 P_are_pages (spPages c) := by
  refine Ok.of F sc_are_pages (fun vs H Q E h => ?_) (fun f cdv A out s H vs Q E hr h => ?_)
  · obtain ⟨a, b, ps, fs, rfl, _⟩ := h
    rfl
  · obtain ⟨a, b, ss, ps, rfl, ha, hl, hb, hB, q⟩ := h
    have hu1 := hu_of hr
    have hu := hr.units
    have hu5 := hr.u5
    simp only [pagesB, Bool.and_eq_true, decide_eq_true_eq, List.all_eq_true] at hB
    obtain ⟨b1, b2, b3, b4⟩ := hB
    have e2 : ((ps.map V.str).length) = ps.length := by simp
    refine ⟨_, (pss_cons (ps_if (PW.pt (pw_or (pt_not (pt_val (pe_f D_are_ascending_names (hr.mono (by decide)) (by rfl) (pa_cons (pv 1) pa_nil)))) (pw_or1 (pt_not (pt_chain op_le op_le (pe_gi B'.LEAST_PAGES) (pe_callB (call_lenU (K := c.K)) (by rfl) B.len (by decide +kernel) (pa_cons (pv 1) pa_nil)) (pe_gi B'.MOST_PAGES)))))) (pss_one (ps_ret pe_bl)) pss_nil)
    (pss_one (ps_ret (pe_callB (call_allU (K := c.K) rfl) (by rfl) B.all (by decide +kernel) (pa_cons (pe_lc (own := [("name", 2), ("page", 3), ("following", 4)]) rfl sc_are_pages.nd (pi_seq (K := c.K) (pv 0)) (blkOk_by (N := N_are_pages) (sc := defScope s_are_pages) (by decide +kernel)) (fun _ _ _ _ _ => (pg_tupU (K := c.K) (n := 3) rfl (pgs_cons (pg_name (i := 2) sc_are_pages.nd rfl (by first | exact Or.inl rfl | exact Or.inr rfl)) (pgs_cons (pg_name (i := 3) sc_are_pages.nd rfl (by first | exact Or.inl rfl | exact Or.inr rfl)) (pgs_cons (pg_name (i := 4) sc_are_pages.nd rfl (by first | exact Or.inl rfl | exact Or.inr rfl)) pgs_nil))))) (fun _ _ _ _ _ => pts_nil) (fun _ _ _ _ _ => (pe_or (pe_cmpR op_isN (pv 3) pe_non (nomark _)) (pe_one (pe_cmpR (op_inU (K := c.K) hu5) (pv 3) (pv 1) (by rfl)))))) pa_nil))))), ?_⟩
    refine ⟨_, rfl, _, namesD ps, rfl, dp_names hb, names_sz b1 (by omega), fun H1 g1 => ⟨_, rfl, ?_⟩⟩
    rw [ascNames_names b1]
    refine (if_neg (by simp)).mpr ?_
    refine ⟨_, rfl, r_nil (r_lenT (g1.sqT hb) ⟨_, _, rfl, rfl, _, rfl, (if_pos (by rw [e2]; simp; omega)).mpr ⟨_, _, rfl, rfl, _, rfl, ?_⟩⟩)⟩
    refine (if_neg (by rw [e2]; simp; omega)).mpr ?_
    have hA := ha.go g1
    obtain ⟨vs, h1, h2, h3⟩ := hA
    have hb1 := g1.sqT hb
    refine .inl (.inr ⟨_, rfl, a, rfl, ⟨_, h1⟩, fun D hD => ?_⟩)
    refine lc_map (walk_tup (xs := vs)) [] (fun _ _ => True) (fun i y _ => ∃ s : Stp, ss[i]? = some s ∧ y = .bl true) yk_at
      (by omega) hD (fun _ h => nomatch h) (fun H' g => g.sqT h1) trivial (fun _ _ _ _ _ => trivial) (fun _ _ _ _ _ _ h => h) ?_ ?_
    · rintro i y H2 H3 Fin hi g2 g3 _ ⟨rfl, hx⟩ fin
      have hsome : ∃ s, ss[i]? = some s := ⟨_, List.getElem?_eq_getElem (by omega)⟩
      obtain ⟨st, hst⟩ := hsome
      obtain ⟨b', f', e, k1, k2⟩ := (h3 i y st hx hst).go g2
      subst e
      refine ⟨b', _, rfl, k1, rfl, ?_⟩
      refine ⟨_, _, rfl, _, _, rfl, _, _, rfl, rfl, rfl, ?_⟩
      have hp := b4 st (List.mem_of_getElem? hst)
      cases hpg : st.page with
      | none =>
        refine ⟨_, rfl, rfl, _, rfl, (if_pos (by simp [pgV])).mpr ?_⟩
        exact fin _ _ (Go.refl _ _) trivial ⟨st, hst, rfl⟩
      | some pg =>
        rw [hpg] at hp
        refine ⟨_, rfl, rfl, _, rfl, (if_neg (by simp [pgV])).mpr ?_⟩
        refine ⟨_, rfl, _, rfl, r_inT (g2.sqT hb1) rfl (flat_strs _) ?_⟩
        have e : inV (.str pg) (ps.map V.str) = true := by
          rw [inV_strs]
          exact hp
        show Fin (.bl (inV (.str pg) (ps.map V.str))) H3
        rw [e]
        exact fin _ _ (Go.refl _ _) trivial ⟨st, hst, rfl⟩
    · intro H2 ys g2 _ hD2 hl2 hr'
      have ey : ys = (ss.map fun _ => true).map V.bl := by
        rw [List.map_map]
        exact list_of (by omega) fun i y e => by obtain ⟨s, h, h'⟩ := hr' i y e; exact ⟨s, h, h'⟩
      subst ey
      refine r_nil (r_all (SqL.of hD2) ?_)
      have e1 : (ss.map fun _ => true).all id = true := by
        rw [List.all_map]
        exact List.all_eq_true.mpr fun _ _ => rfl
      rw [e1]
      exact q H2 (g1.trans g2)
end
end Sd

namespace Sd
open PySem PySem.Spec PyProof.Rows L2 RZ RT
/-- right steps: few, each a step, names unlike, followers named -/
def stepsB (ss : List Stp) : Bool := decide (1 ≤ ss.length) && (decide (ss.length ≤ 8) && (ss.all stpB && (decide ((ss.map Stp.name).Nodup) && ss.all fun s => s.fol.all fun n => decide (n ∈ ss.map Stp.name))))
def spSteps (c : Wd) : Sp := fun vs H Q _ => ∃ a ss, vs = [.ref a] ∧ AreStps c.K H a ss ∧ stepsB ss = true ∧ ∀ H', Go [] H H' → Q (.bl true) H'
def stpD (s : Stp) : PyData := .tuple [.str s.name, pgD s.page, namesD s.fol]
theorem dpA_steps {K : PySem.W.Frag} {H : Hp} : ∀ (vs : List V) (ss : List Stp), vs.length = ss.length → (∀ (i : Nat) (v : V) (s : Stp), vs[i]? = some v → ss[i]? = some s → IsStp K H s v) → DpAll K H vs (ss.map stpD)
  | [], [], _, _ => .nil
  | v :: vs, s :: ss, h, k => .cons (IsStp.dp (k 0 v s rfl rfl)) (dpA_steps vs ss (by simpa using h) fun i v' s' e1 e2 => k (i + 1) v' s' e1 e2)
  | [], _ :: _, h, _ => by simp at h
  | _ :: _, [], h, _ => by simp at h
theorem AreStps.dp {K : PySem.W.Frag} {H : Hp} {a : Addr} {ss : List Stp} (h : AreStps K H a ss) : Dp K H (.ref a) (.tuple (ss.map stpD)) := by
  obtain ⟨vs, h1, h2, h3⟩ := h
  exact .tup h1 (dpA_steps vs ss h2 h3)
section
variable {c : Wd}
abbrev s_are_steps : Stmt := topS 44
abbrev N_are_steps : List Str := ["value", "names", "step", "name"]
abbrev P_are_steps : List Str := ["value"]
theorem sc_are_steps : FnScope N_are_steps P_are_steps (defScope s_are_steps) := ⟨rfl, rfl, rfl, by decide +kernel, rfl, by decide +kernel, by decide +kernel⟩
theorem ok_are_steps (F : At c "are_steps" "are_steps" s_are_steps P_are_steps) (B : Bi c) (B' : Bm c) (D_is_step : Ok c "is_step" 3 P_is_step (spStp c)) : Ok c "are_steps" 4 P_are_steps (spSteps c) := by
  refine Ok.of F sc_are_steps (fun vs H Q E h => ?_) (fun f cdv A out s H vs Q E hr h => ?_)
  · obtain ⟨a, ss, rfl, _⟩ := h
    rfl
  · obtain ⟨a, ss, rfl, ha, hB, q⟩ := h
    have hu1 := hu_of hr
    have hu := hr.units
    have hu5 := hr.u5
    simp only [stepsB, Bool.and_eq_true, decide_eq_true_eq, List.all_eq_true] at hB
    obtain ⟨b1, b2, b3, b4, b5⟩ := hB
    obtain ⟨vs, h1, h2, h3⟩ := id ha
    refine ⟨_, (pss_cons (ps_if (PW.pt (pw_or (pt_not (pt_val (pe_callB (call_isiU (K := c.K)) (by rfl) B.isinstance (by decide +kernel) (pa_cons (pv 0) (pa_cons (pe_ty "tuple" "tuple" (by rfl) B.tuple (by decide +kernel)) pa_nil))))) (pw_or1 (pt_not (pt_chain op_le op_le pe_int (pe_callB (call_lenU (K := c.K)) (by rfl) B.len (by decide +kernel) (pa_cons (pv 0) pa_nil)) (pe_gi B'.MOST_STEPS)))))) (pss_one (ps_ret pe_bl)) pss_nil)
    (pss_cons (ps_if (pt_not (pt_val (pe_callB (call_allU (K := c.K) rfl) (by rfl) B.all (by decide +kernel) (pa_cons (pe_lc (own := [("step", 2)]) rfl sc_are_steps.nd (pi_seq (K := c.K) (pv 0)) (blkOk_by (N := N_are_steps) (sc := defScope s_are_steps) (by decide +kernel)) (fun _ _ _ _ _ => (pg_name (i := 2) sc_are_steps.nd rfl (by first | exact Or.inl rfl | exact Or.inr rfl))) (fun _ _ _ _ _ => pts_nil) (fun _ _ _ _ _ => (pe_f D_is_step (hr.mono (by decide)) (by rfl) (pa_cons (pv 2) pa_nil)))) pa_nil)))) (pss_one (ps_ret pe_bl)) pss_nil)
    (pss_cons (ps_set (i := 1) sc_are_steps.nd rfl (by first | exact Or.inl rfl | exact Or.inr rfl) (pe_lc (own := [("step", 2)]) rfl sc_are_steps.nd (pi_seq (K := c.K) (pv 0)) (blkOk_by (N := N_are_steps) (sc := defScope s_are_steps) (by decide +kernel)) (fun _ _ _ _ _ => (pg_name (i := 2) sc_are_steps.nd rfl (by first | exact Or.inl rfl | exact Or.inr rfl))) (fun _ _ _ _ _ => pts_nil) (fun _ _ _ _ _ => (pe_ixU (K := c.K) hu1 (pv 2) pe_int (fun _ _ => rfl) (fun _ _ => rfl)))))
    (pss_cons (ps_if (pt_cmpR op_ltU (pe_lenSetT (by rfl) (by rfl) B.len (by rfl) B.set (pv 1)) (pe_callB (call_lenU (K := c.K)) (by rfl) B.len (by decide +kernel) (pa_cons (pv 1) pa_nil)) (nomark _)) (pss_one (ps_ret pe_bl)) pss_nil)
    (pss_one (ps_ret (pe_callB (call_allU (K := c.K) rfl) (by rfl) B.all (by decide +kernel) (pa_cons (pe_lc2 (own := [("step", 2), ("name", 3)]) (vs1 := [3]) rfl sc_are_steps.nd (pi_seq (K := c.K) (pv 0)) (blkOk_by (N := N_are_steps) (sc := defScope s_are_steps) (by decide +kernel)) (by decide) (fun _ _ _ _ _ => (pg_name (i := 2) sc_are_steps.nd rfl (by first | exact Or.inl rfl | exact Or.inr rfl))) (fun _ _ _ _ _ => pts_nil) (fun _ _ _ _ _ => (pi_seq (K := c.K) (pe_ixU (K := c.K) hu1 (pv 2) pe_int (fun _ _ => rfl) (fun _ _ => rfl)))) (fun _ _ _ _ _ => (pg_name (i := 3) sc_are_steps.nd rfl (by first | exact Or.inl rfl | exact Or.inr rfl))) (fun _ _ _ _ _ => pts_nil) (fun _ _ _ _ _ => (pe_cmpR (op_inU (K := c.K) hu5) (pv 3) (pv 1) (by rfl)))) pa_nil)))))))), ?_⟩
    refine ⟨_, rfl, r_c (r_nil (r_isTup ha.dp ⟨_, rfl, ?_⟩))⟩
    refine (if_neg (by simp [isTup])).mpr ?_
    refine ⟨_, rfl, r_nil (r_lenT h1 ⟨_, _, rfl, rfl, _, rfl, (if_pos (by rw [h2]; simp; omega)).mpr ⟨_, _, rfl, rfl, _, rfl, ?_⟩⟩)⟩
    refine (if_neg (by rw [h2]; simp; omega)).mpr ?_
    refine .inl (.inr ⟨_, rfl, a, rfl, ⟨_, h1⟩, fun D hD => ?_⟩)
    refine lc_map (walk_tup (xs := vs)) [] (fun _ _ => True) (fun i y _ => ∃ s : Stp, ss[i]? = some s ∧ y = .bl true) yk_at
      (by omega) hD (fun _ h => nomatch h) (fun H' g => g.sqT h1) trivial (fun _ _ _ _ _ => trivial) (fun _ _ _ _ _ _ h => h) ?_ ?_
    · rintro i y H2 H3 Fin hi g2 g3 _ ⟨rfl, hx⟩ fin
      have hsome : ∃ s, ss[i]? = some s := ⟨_, List.getElem?_eq_getElem (by omega)⟩
      obtain ⟨st, hst⟩ := hsome
      refine ⟨rfl, _, rfl, ?_⟩
      exact ⟨y, st, rfl, (h3 i y st hx hst).go g2, b3 st (List.mem_of_getElem? hst), fun H' g => fin _ _ g trivial ⟨st, hst, rfl⟩⟩
    intro H2 ys g2 _ hD2 hl2 hr'
    have ey : ys = (ss.map fun _ => true).map V.bl := by
      rw [List.map_map]
      exact list_of (by omega) fun i y e => by obtain ⟨s, h, h'⟩ := hr' i y e; exact ⟨s, h, h'⟩
    subst ey
    refine r_nil (r_all (SqL.of hD2) ?_)
    have e1 : (ss.map fun _ => true).all id = true := by
      rw [List.all_map]
      exact List.all_eq_true.mpr fun _ _ => rfl
    rw [e1]
    refine ⟨_, rfl, (if_neg (by simp)).mpr ?_⟩
    clear hr' hl2 e1 hD2 hD
    have h1' := g2.sqT h1
    refine .inl (.inr ⟨_, rfl, a, rfl, ⟨_, h1'⟩, fun D hD => ?_⟩)
    refine lc_map (walk_tup (xs := vs)) [] (fun _ _ => True) (fun i y _ => ∃ s : Stp, ss[i]? = some s ∧ y = .str s.name) yk_at
      (by omega) hD (fun _ h => nomatch h) (fun H' g => g.sqT h1') trivial (fun _ _ _ _ _ => trivial) (fun _ _ _ _ _ _ h => h) ?_ ?_
    · rintro i y H3 H4 Fin hi g3 g4 _ ⟨rfl, hx⟩ fin
      have hsome : ∃ s, ss[i]? = some s := ⟨_, List.getElem?_eq_getElem (by omega)⟩
      obtain ⟨st, hst⟩ := hsome
      obtain ⟨b', f', e, k1, k2⟩ := (h3 i y st hx hst).go (g2.trans g3)
      subst e
      refine ⟨rfl, ?_⟩
      exact .inl ⟨_, rfl, ixT (i := 0) k1 rfl (fin _ _ (Go.refl _ _) trivial ⟨st, hst, rfl⟩)⟩
    intro H3 ys g3 _ hD3 hl3 hr3
    have ey : ys = (ss.map Stp.name).map V.str := by
      rw [List.map_map]
      exact list_of (by omega) fun i y e => by obtain ⟨s, h, h'⟩ := hr3 i y e; exact ⟨s, h, h'⟩
    subst ey
    refine ⟨_, rfl, D, ss.map Stp.name, rfl, SqL.of hD3, by simp; omega, ?_⟩
    refine ⟨_, rfl, r_nil (r_lenL (SqL.of hD3) ?_)⟩
    refine r_ltI ⟨_, rfl, ?_⟩
    rw [unlike_nodup b4 _ (Nat.le_refl _)]
    refine (if_neg (by simp)).mpr ?_
    have gA := g2.trans g3
    have h1'' := gA.sqT h1
    refine .inl (.inr ⟨_, rfl, a, rfl, ⟨_, h1''⟩, fun D2 hD2 => ?_⟩)
    refine lc2_map (walk_tup (xs := vs)) (fun i j ys _ => (∀ y ∈ ys, y = V.bl true) ∧ i ≤ ss.length ∧ (j ≤ 3 ∧ ys.length ≤ i * 3 + j)) yk_at hD2 (fun H' g => g.sqT h1'') ?_ ?_ ?_ ?_ ?_
    · exact ⟨(fun _ h => nomatch h), by omega, by omega, by simp⟩
    · exact fun _ _ _ _ _ _ _ h => h
    · rintro i j ys H' ⟨_, h, h', h''⟩
      omega
    · rintro i y H4 H5 ys Fin hi g4 ⟨hy1, hy2, _, hy3⟩ ⟨rfl, hx⟩ _ dD fin
      have hsome : ∃ s, ss[i]? = some s := ⟨_, List.getElem?_eq_getElem (by omega)⟩
      obtain ⟨st, hst⟩ := hsome
      obtain ⟨b', f', e, k1, k2⟩ := (h3 i y st hx hst).go (gA.trans g4)
      subst e
      refine ⟨rfl, ?_⟩
      refine .inl (.inr (.inl ⟨_, rfl, ixT (i := 2) k1 rfl ⟨f', rfl, ⟨_, k2⟩, fin _ _ _ ?_⟩⟩))
      have hst3 := b3 st (List.mem_of_getElem? hst)
      simp only [stpB, Bool.and_eq_true, decide_eq_true_eq] at hst3
      obtain ⟨_, _, _, hf3⟩ := hst3
      refine ⟨_, _, _, walk_tup (xs := st.fol.map V.str), yk_at, g4, dD, ⟨hy1, hy2, by omega, hy3⟩, fun H6 g => g.sqT k2, ?_, ?_⟩
      · rintro zs H6 ⟨p1, p2, p3, p4⟩
        have e : (st.fol.map V.str).length = st.fol.length := by simp
        rw [e] at p3 p4
        exact ⟨p1, by omega, by omega, by omega⟩
      · rintro j z H6 H7 zs Fin2 hj g6 g46 ⟨p1, p2, p3, p4⟩ ⟨rfl, hz⟩ fin2
        have hz' : ∃ p, st.fol[j]? = some p ∧ z = .str p := by
          simp only [List.getElem?_map] at hz
          cases h : st.fol[j]? with
          | none => simp [h] at hz
          | some p => exact ⟨p, rfl, by simpa [h] using hz.symm⟩
        obtain ⟨p, hp, rfl⟩ := hz'
        simp at hj
        refine ⟨rfl, _, rfl, _, rfl, r_inL (g6.sqL (SqL.of hD3)) rfl (flat_strs _) ?_⟩
        have e : inV (.str p) ((ss.map Stp.name).map V.str) = true := by
          rw [inV_strs]
          exact decide_eq_true (b5 st (List.mem_of_getElem? hst) p (List.mem_of_getElem? hp))
        rw [e]
        refine fin2 _ _ (Go.refl _ _) ⟨?_, hy2, by omega, by simp; omega⟩
        intro y hy
        rcases List.mem_append.mp hy with h | h
        · exact p1 y h
        · simpa using h
    · rintro H4 ys g4 ⟨p1, _⟩ hD4
      have ey : ys = (ys.map fun _ => true).map V.bl := by
        rw [List.map_map]
        have : ∀ zs : List V, (∀ y ∈ zs, y = V.bl true) → zs = zs.map (V.bl ∘ fun _ => true) := by
          intro zs
          induction zs with
          | nil => intro _; rfl
          | cons z zs ih =>
            intro h
            rw [List.map_cons, ← ih fun y hy => h y (List.mem_cons_of_mem _ hy), h z List.mem_cons_self]
            rfl
        exact this ys p1
      rw [ey] at hD4
      refine r_nil (r_all (SqL.of hD4) ?_)
      have e1 : (ys.map fun _ => true).all id = true := by
        rw [List.all_map]
        exact List.all_eq_true.mpr fun _ _ => rfl
      rw [e1]
      exact q H4 (gA.trans g4)
end
end Sd

namespace Sd
open PySem PySem.Spec PyProof.Rows L2 RZ RT
/-- all but o is kept -/
def Keep (o : Addr) (H H' : Hp) : Prop := ∀ b u, b ≠ o → H b = some u → H' b = some u
/-- tuples are kept -/
def Tk (K : PySem.W.Frag) (H H' : Hp) : Prop := ∀ a xs, SqT K H a xs → SqT K H' a xs
theorem Tk.trans {K : PySem.W.Frag} {H H1 H2 : Hp} (a : Tk K H H1) (b : Tk K H1 H2) : Tk K H H2 := fun x xs h => b x xs (a x xs h)
theorem Go.tk {K : PySem.W.Frag} {M : List Addr} {H H' : Hp} (g : Go M H H') : Tk K H H' := fun _ _ h => g.sqT h
theorem Keep.tk {K : PySem.W.Frag} {o C dx : Addr} {fs : List (Str × V)} {H H' : Hp} (k : Keep o H H') (ho : H o = some (.ins C dx fs)) : Tk K H H' := fun a xs h => by
  rcases h with (h | ⟨u, h⟩) | h
  · exact .inl (.inl (k a _ (fun z => by rw [z, ho] at h; cases h) h))
  · exact .inl (.inr ⟨u, k a _ (fun z => by rw [z, ho] at h; cases h) h⟩)
  · exact .inr h
theorem Keep.upd {o : Addr} {H : Hp} {u : HO} : Keep o H (upd H o u) := fun b v hb e => by rw [upd_ne hb]; exact e
theorem Keep.trans {o : Addr} {H H1 H2 : Hp} (a : Keep o H H1) (b : Keep o H1 H2) : Keep o H H2 := fun c u hc e => b c u hc (a c u hc e)
theorem Go.keep {o : Addr} {H H' : Hp} (g : Go [] H H') : Keep o H H' := fun b u _ e => g.old b u (fun z => nomatch z) e
theorem AreStps.tk {K : PySem.W.Frag} {H H' : Hp} {a : Addr} {ss : List Stp} (h : AreStps K H a ss) (t : Tk K H H') : AreStps K H' a ss := by
  obtain ⟨vs, h1, h2, h3⟩ := h
  refine ⟨vs, t _ _ h1, h2, fun i v s e1 e2 => ?_⟩
  obtain ⟨b, f, e, k1, k2⟩ := h3 i v s e1 e2
  exact ⟨b, f, e, t _ _ k1, t _ _ k2⟩
/-- a right machine's parts -/
structure Mac where
  steps : List Stp
  clock : List Nat
  pages : List Str
  move : Nat
  first : List Str
def macB (m : Mac) : Bool := stepsB m.steps && (clockB m.clock && (pagesB m.steps m.pages && (decide (m.move ≤ 9) && setB m.pages m.first)))
/-- the numbers of the pages of all sets -/
def macCs (m : Mac) (cs : List (List Nat)) : Prop := cs[0]? = some (List.range m.first.length) ∧ Cmb.Chain m.pages.length cs ∧ ∀ ix ∈ cs, ∀ i ∈ ix, i < m.pages.length
def mNames : List Str := ["_steps", "_clock", "_pages", "_move", "_first", "_names", "_sets", "_page_of", "_following_of"]
/-- a machine stands at o -/
structure MacAt (K : PySem.W.Frag) (C : Addr) (H : Hp) (o : Addr) (m : Mac) (cs : List (List Nat)) : Prop where
  ex : ∃ (dx : Addr) (fs : List (Str × V)) (a1 a2 a3 a5 a6 a7 d1 d2 : Addr) (ts : List Addr) (kv1 kv2 : List (Key × V)),
    H o = some (.ins C dx fs) ∧ fs.lookup ("_steps" : Str) = some (.ref a1) ∧ AreStps K H a1 m.steps ∧ fs.lookup ("_clock" : Str) = some (.ref a2) ∧ SqT K H a2 (intsV m.clock) ∧ fs.lookup ("_pages" : Str) = some (.ref a3) ∧ SqT K H a3 (m.pages.map V.str) ∧
    fs.lookup ("_move" : Str) = some (.int (m.move : Int)) ∧ fs.lookup ("_first" : Str) = some (.ref a5) ∧ SqT K H a5 (m.first.map V.str) ∧ fs.lookup ("_names" : Str) = some (.ref a6) ∧ SqT K H a6 ((m.steps.map Stp.name).map V.str) ∧
    fs.lookup ("_sets" : Str) = some (.ref a7) ∧ SqT K H a7 (ts.map V.ref) ∧ ts.length = cs.length ∧ (∀ (j : Nat) (t : Addr) (ix : List Nat), ts[j]? = some t → cs[j]? = some ix → SqT K H t (ix.map fun i => (m.pages.map V.str).getD i .non)) ∧
    fs.lookup ("_page_of" : Str) = some (.ref d1) ∧ H d1 = some (.dK kv1) ∧ kv1 = m.steps.map (fun s => (.inr s.name, pgV s.page)) ∧
    fs.lookup ("_following_of" : Str) = some (.ref d2) ∧ H d2 = some (.dK kv2) ∧ kv2.length = m.steps.length ∧ (∀ (i : Nat) (s : Stp) (p : Key × V), m.steps[i]? = some s → kv2[i]? = some p → ∃ f, p = (.inr s.name, .ref f) ∧ SqT K H f (s.fol.map V.str)) ∧ ∀ f : Str, f ∉ mNames → fs.lookup f = none
def spMac (c : Wd) (C : Addr) : Sp := fun vs H Q _ => ∃ (o a1 a2 a3 a5 dx : Addr) (m : Mac) (cs : List (List Nat)), vs = [.ref o, .ref a1, .ref a2, .ref a3, .int (m.move : Int), .ref a5] ∧ H o = some (.ins C dx []) ∧ AreStps c.K H a1 m.steps ∧ SqT c.K H a2 (intsV m.clock) ∧ SqT c.K H a3 (m.pages.map V.str) ∧
  SqT c.K H a5 (m.first.map V.str) ∧ macB m = true ∧ macCs m cs ∧ ∀ H', Keep o H H' → MacAt c.K C H' o m cs → Q .non H'
/-- a class as the top left it -/
structure ClAt (c : Wd) (x qual : Str) (C : Addr) (st : Stmt) (ps : List Str) : Prop where
  ex : ∃ (f : Addr) (fd : FuncData), Mk c.K C f ∧ c.mg x = some (.ref C) ∧ Fun c.K "__init__" qual st f fd ∧ Binds c.K fd ps []
  cls : Cls c.K C
theorem mak_of {c : Wd} {x qual : Str} {C : Addr} {st : Stmt} {N ps : List Str} {k : Nat} {sp : Sp} (F : ClAt c x qual C st ps) (S : FnScope N ps (defScope st))
    (len : ∀ vs H Q E, sp vs H Q E → vs.length = ps.length)
    (h : ∀ (f : Addr) (cdv : Value) (A : Around) (out : List Env) (s : Shared) (H : Hp) (vs : List V) (Q : VK) (E : XK), Room k (A.deeper (envOfC qual (defScope st) s.heap.objs.size f cdv)) → sp vs H Q E →
      ∃ t, PSs (cxN c N qual st f cdv A out s H E).nox (defBody st) t ∧ t { nx := fun _ H' => Q .non H', rt := Q } (L2.start N vs) H) : MkO c x C (k + 1) ps sp := by
  obtain ⟨f, fd, h1, h2, h3, h4⟩ := F.ex
  refine ⟨f, fd, h1, h2, h4, h3.okX S len fun cdv A out s H vs Q E hr q => ?_⟩
  obtain ⟨t, a, b⟩ := h f cdv A out s H vs Q E hr q
  exact ⟨t, a.nox, b⟩
theorem putF_s {f : Str} {v : V} {k : Nat} : ∀ {fs : List (Str × V)}, fs.length ≤ k → (putF f v fs).length ≤ k + 1
  | [], _ => by simp [putF]
  | (g, x) :: r, h => by
    unfold putF
    by_cases e : g = f
    · rw [if_pos e]
      simp at h ⊢
      omega
    · rw [if_neg e]
      cases k with
      | zero => simp at h
      | succ k =>
        have := putF_s (f := f) (v := v) (k := k) (fs := r) (by simpa using h)
        simp
        omega
theorem valV_free {kvs : List (Key × V)} {k : Key} (h : ∀ p ∈ kvs, p.1 ≠ k) : valV kvs k = none := by
  induction kvs with
  | nil => rfl
  | cons p r ih => rw [valV_neg (h p List.mem_cons_self), ih fun q hq => h q (List.mem_cons_of_mem _ hq)]
theorem nodup_ne {ss : List Stp} (h : (ss.map Stp.name).Nodup) {i j : Nat} {s t : Stp} (hi : ss[i]? = some s) (hj : ss[j]? = some t) (hij : i ≠ j) : s.name ≠ t.name := fun e => by
  obtain ⟨hi', ei⟩ := List.getElem?_eq_some_iff.mp hi
  obtain ⟨hj', ej⟩ := List.getElem?_eq_some_iff.mp hj
  have e1 : (ss.map Stp.name)[i]'(by simpa using hi') = (ss.map Stp.name)[j]'(by simpa using hj') := by simp [ei, ej, e]
  exact hij ((List.getElem_inj h).mp e1)
section
variable {c : Wd} {C : Addr}
abbrev s_Machine___init__ : Stmt := inClass (topS 48) 0
abbrev N_Machine___init__ : List Str := ["self", "steps", "clock", "pages", "move", "first", "name", "page", "following"]
abbrev P_Machine___init__ : List Str := ["self", "steps", "clock", "pages", "move", "first"]
theorem sc_Machine___init__ : FnScope N_Machine___init__ P_Machine___init__ (defScope s_Machine___init__) := ⟨rfl, rfl, rfl, by decide +kernel, rfl, by decide +kernel, by decide +kernel⟩
theorem len_Machine_init : ∀ vs H Q E, spMac c C vs H Q E → vs.length = P_Machine___init__.length := by
  rintro vs H Q E ⟨o, a1, a2, a3, a5, dx, m, cs, rfl, _⟩
  rfl
theorem body_Machine_init (F : ClAt c "Machine" "Machine.__init__" C s_Machine___init__ P_Machine___init__) (B : Bi c) (B' : Bm c) (D_are_steps : Ok c "are_steps" 4 P_are_steps (spSteps c)) (D_is_clock : Ok c "is_clock" 3 P_is_clock (spClock c))
    (D_are_pages : Ok c "are_pages" 3 P_are_pages (spPages c)) (D_is_integer_in : Ok c "is_integer_in" 2 P_is_integer_in (spIn c)) (D_is_set : Ok c "is_set" 3 P_is_set (spSet c))
    (nA : ∀ f : Str, f ∈ (["_steps", "_clock", "_pages", "_move", "_first", "_names", "_sets", "_page_of", "_following_of"] : List Str) → NoAttr c.K C f) (f : Addr) (cdv : Value) (A : Around) (out : List Env) (s : Shared) (H : Hp) (vs : List V) (Q : VK) (E : XK)
    (hr : Room 4 (A.deeper (envOfC "Machine.__init__" (defScope s_Machine___init__) s.heap.objs.size f cdv))) (h : spMac c C vs H Q E) :
    ∃ t, PSs (cxN c N_Machine___init__ "Machine.__init__" s_Machine___init__ f cdv A out s H E).nox (defBody s_Machine___init__) t ∧ t { nx := fun _ H' => Q .non H', rt := Q } (L2.start N_Machine___init__ vs) H := by
  · obtain ⟨o, a1, a2, a3, a5, dx, m, cs, rfl, ho, h1, h2, h3, h5, hB, hC, q⟩ := h
    have hu1 := hu_of hr
    have hu := hr.units
    simp only [macB, Bool.and_eq_true, decide_eq_true_eq] at hB
    obtain ⟨b1, b2, b3, b4, b5⟩ := hB
    refine ⟨_, (pss_cons (ps_if (pt_not (pt_val (pe_f D_are_steps (hr.mono (by decide)) (by rfl) (pa_cons (pv 1) pa_nil)))) (pss_one ps_never) pss_nil)
    (pss_cons (ps_if (pt_not (pt_val (pe_f D_is_clock (hr.mono (by decide)) (by rfl) (pa_cons (pv 2) pa_nil)))) (pss_one ps_never) pss_nil)
    (pss_cons (ps_if (pt_not (pt_val (pe_f D_are_pages (hr.mono (by decide)) (by rfl) (pa_cons (pv 1) (pa_cons (pv 3) pa_nil))))) (pss_one ps_never) pss_nil)
    (pss_cons (ps_if (pt_not (pt_val (pe_f D_is_integer_in (hr.mono (by decide)) (by rfl) (pa_cons (pv 4) (pa_cons pe_int (pa_cons (pe_gi B'.MOST_MOVE) pa_nil)))))) (pss_one ps_never) pss_nil)
    (pss_cons (ps_if (pt_not (pt_val (pe_f D_is_set (hr.mono (by decide)) (by rfl) (pa_cons (pv 3) (pa_cons (pv 5) pa_nil))))) (pss_one ps_never) pss_nil)
    (pss_cons (ps_fld (pv 0) (pv 1) rfl)
    (pss_cons (ps_fld (pv 0) (pv 2) rfl)
    (pss_cons (ps_fld (pv 0) (pv 3) rfl)
    (pss_cons (ps_fld (pv 0) (pv 4) rfl)
    (pss_cons (ps_fld (pv 0) (pv 5) rfl)
    (pss_cons (ps_fld (pv 0) (pe_callTy (call_tupU (K := c.K)) (by rfl) B.tuple (by decide +kernel) (pa_cons (pe_lc (own := [("name", 6), ("page", 7), ("following", 8)]) rfl sc_Machine___init__.nd (pi_seq (K := c.K) (pv 1)) (blkOk_by (N := N_Machine___init__) (sc := defScope s_Machine___init__) (by decide +kernel)) (fun _ _ _ _ _ => (pg_tupU (K := c.K) (n := 3) rfl (pgs_cons (pg_name (i := 6) sc_Machine___init__.nd rfl (by first | exact Or.inl rfl | exact Or.inr rfl)) (pgs_cons (pg_name (i := 7) sc_Machine___init__.nd rfl (by first | exact Or.inl rfl | exact Or.inr rfl)) (pgs_cons (pg_name (i := 8) sc_Machine___init__.nd rfl (by first | exact Or.inl rfl | exact Or.inr rfl)) pgs_nil))))) (fun _ _ _ _ _ => pts_nil) (fun _ _ _ _ _ => (pv 6))) pa_nil)) rfl)
    (pss_cons (ps_fld (pv 0) (Cmb.pe_tupComb rfl (by rfl) B.tuple (by rfl) B'.combinations (pa_cons (pe_callTy (call_lstU (K := c.K)) (by rfl) B.list (by decide +kernel) (pa_cons (pv 3) pa_nil)) (pa_cons (pe_callB (call_lenU (K := c.K)) (by rfl) B.len (by decide +kernel) (pa_cons (pv 5) pa_nil)) pa_nil))) rfl)
    (pss_cons (ps_fld (pv 0) (pe_dc (own := [("name", 6), ("page", 7), ("following", 8)]) rfl sc_Machine___init__.nd (pi_seq (K := c.K) (pv 1)) (blkOk_by (N := N_Machine___init__) (sc := defScope s_Machine___init__) (by decide +kernel)) (fun _ _ _ _ _ => (pg_tupU (K := c.K) (n := 3) rfl (pgs_cons (pg_name (i := 6) sc_Machine___init__.nd rfl (by first | exact Or.inl rfl | exact Or.inr rfl)) (pgs_cons (pg_name (i := 7) sc_Machine___init__.nd rfl (by first | exact Or.inl rfl | exact Or.inr rfl)) (pgs_cons (pg_name (i := 8) sc_Machine___init__.nd rfl (by first | exact Or.inl rfl | exact Or.inr rfl)) pgs_nil))))) (fun _ _ _ _ _ => pts_nil) (fun _ _ _ _ _ => (pv 6)) (fun _ _ _ _ _ => (pv 7))) rfl)
    (pss_one (ps_fld (pv 0) (pe_dc (own := [("name", 6), ("page", 7), ("following", 8)]) rfl sc_Machine___init__.nd (pi_seq (K := c.K) (pv 1)) (blkOk_by (N := N_Machine___init__) (sc := defScope s_Machine___init__) (by decide +kernel)) (fun _ _ _ _ _ => (pg_tupU (K := c.K) (n := 3) rfl (pgs_cons (pg_name (i := 6) sc_Machine___init__.nd rfl (by first | exact Or.inl rfl | exact Or.inr rfl)) (pgs_cons (pg_name (i := 7) sc_Machine___init__.nd rfl (by first | exact Or.inl rfl | exact Or.inr rfl)) (pgs_cons (pg_name (i := 8) sc_Machine___init__.nd rfl (by first | exact Or.inl rfl | exact Or.inr rfl)) pgs_nil))))) (fun _ _ _ _ _ => pts_nil) (fun _ _ _ _ _ => (pv 6)) (fun _ _ _ _ _ => (pv 8))) rfl))))))))))))))), ?_⟩
    have sl : m.steps.length ≤ 1000 := by
      simp only [stepsB, Bool.and_eq_true, decide_eq_true_eq] at b1
      omega
    have pl : m.pages.length ≤ 1000 := by
      simp only [pagesB, Bool.and_eq_true, decide_eq_true_eq] at b3
      omega
    refine ⟨_, rfl, a1, m.steps, rfl, h1, b1, fun H1 g1 => ⟨_, rfl, (if_neg (by simp)).mpr ?_⟩⟩
    refine ⟨_, rfl, a2, m.clock, rfl, g1.sqT h2, b2, fun H2 g2 => ⟨_, rfl, (if_neg (by simp)).mpr ?_⟩⟩
    have g2 := g1.trans g2
    refine ⟨_, rfl, _, rfl, a1, a3, m.steps, m.pages, rfl, h1.go g2, sl, g2.sqT h3, b3, fun H3 g3 => ⟨_, rfl, (if_neg (by simp)).mpr ?_⟩⟩
    have g3 := g2.trans g3
    refine ⟨_, rfl, _, .int (m.move : Int), 0, 9, rfl, .int _, fun H4 g4 => ⟨_, rfl, (if_neg (by simp [isIn]; omega)).mpr ?_⟩⟩
    have g4 := g3.trans g4
    refine ⟨_, rfl, _, rfl, a3, a5, m.pages, m.first, rfl, g4.sqT h3, g4.sqT h5, pl, b5, fun H5 g5 => ⟨_, rfl, (if_neg (by simp)).mpr ?_⟩⟩
    have g5 := g4.trans g5
    have o5 : H5 o = some (.ins C dx []) := g5.old o _ (fun z => nomatch z) ho
    clear g1 g2 g3 g4
    refine ⟨_, rfl, _, rfl, o, C, dx, _, rfl, o5, F.cls, nA _ (by decide), by simp, ?_⟩
    refine ⟨_, rfl, _, rfl, o, C, dx, _, rfl, upd_same, F.cls, nA _ (by decide), Nat.lt_of_le_of_lt (putF_s (Nat.le_refl _)) (by decide), ?_⟩
    refine ⟨_, rfl, _, rfl, o, C, dx, _, rfl, upd_same, F.cls, nA _ (by decide), Nat.lt_of_le_of_lt (putF_s (putF_s (Nat.le_refl _))) (by decide), ?_⟩
    refine ⟨_, rfl, _, rfl, o, C, dx, _, rfl, upd_same, F.cls, nA _ (by decide), Nat.lt_of_le_of_lt (putF_s (putF_s (putF_s (Nat.le_refl _)))) (by decide), ?_⟩
    refine ⟨_, rfl, _, rfl, o, C, dx, _, rfl, upd_same, F.cls, nA _ (by decide), Nat.lt_of_le_of_lt (putF_s (putF_s (putF_s (putF_s (Nat.le_refl _))))) (by decide), ?_⟩
    rw [upd_upd, upd_upd, upd_upd, upd_upd]
    generalize hfs : putF "_first" (.ref a5) (putF "_move" (.int (m.move : Int)) (putF "_pages" (.ref a3) (putF "_clock" (.ref a2) (putF "_steps" (.ref a1) [])))) = fs5
    have f5 : fs5.length ≤ 5 := by rw [← hfs]; exact putF_s (putF_s (putF_s (putF_s (putF_s (Nat.le_refl _)))))
    have k6 : Keep o H (upd H5 o (.ins C dx fs5)) := (Go.keep g5).trans Keep.upd
    have t6 : Tk c.K H (upd H5 o (.ins C dx fs5)) := k6.tk ho
    generalize hH6 : upd H5 o (.ins C dx fs5) = H6 at k6 t6
    have o6 : H6 o = some (.ins C dx fs5) := by rw [← hH6]; exact upd_same
    clear hH6
    obtain ⟨ws, s1, s2, s3⟩ := h1.tk t6
    refine .inl (.inr ⟨_, rfl, a1, rfl, ⟨_, s1⟩, fun D hD => ?_⟩)
    refine lc_map (walk_tup (xs := ws)) [] (fun _ _ => True) (fun i y _ => ∃ s : Stp, m.steps[i]? = some s ∧ y = .str s.name) yk_at
      (by omega) hD (fun _ h => nomatch h) (fun H' g => g.sqT s1) trivial (fun _ _ _ _ _ => trivial) (fun _ _ _ _ _ _ h => h) ?_ ?_
    · rintro i y H7 H8 Fin hi g7 g8 _ ⟨rfl, hx⟩ fin
      obtain ⟨st, hst⟩ : ∃ s, m.steps[i]? = some s := ⟨_, List.getElem?_eq_getElem (by omega)⟩
      obtain ⟨b', f', e, k1, k2⟩ := (s3 i y st hx hst).go g7
      subst e
      refine ⟨b', _, rfl, k1, rfl, _, _, rfl, _, _, rfl, _, _, rfl, rfl, rfl, ?_⟩
      exact ⟨_, rfl, fin _ _ (Go.refl _ _) trivial ⟨st, hst, rfl⟩⟩
    intro H7 ys g7 _ hD7 hl7 hr7
    have ey : ys = (m.steps.map Stp.name).map V.str := by
      rw [List.map_map]
      exact list_of (by omega) fun i y e => by obtain ⟨s, h, h'⟩ := hr7 i y e; exact ⟨s, h, h'⟩
    subst ey
    refine r_nil ⟨D, _, rfl, .inl ⟨SqL.of hD7, fun a6 f6 => ?_⟩⟩
    have g8 : Go [] H6 (upd H7 a6 (.tup ((m.steps.map Stp.name).map V.str))) := g7.trans (Go.new f6)
    have n8 : SqT c.K (upd H7 a6 (.tup ((m.steps.map Stp.name).map V.str))) a6 ((m.steps.map Stp.name).map V.str) := .inl (.inl upd_same)
    generalize upd H7 a6 (.tup ((m.steps.map Stp.name).map V.str)) = H8 at g8 n8
    have o8 : H8 o = some (.ins C dx fs5) := g8.old o _ (fun z => nomatch z) o6
    refine ⟨_, rfl, o, C, dx, fs5, rfl, o8, F.cls, nA _ (by decide), by omega, ?_⟩
    have k9 : Keep o H (upd H8 o (.ins C dx (putF "_names" (.ref a6) fs5))) := (k6.trans (Go.keep g8)).trans Keep.upd
    have n9 := (Keep.tk (K := c.K) (Keep.upd (u := .ins C dx (putF "_names" (.ref a6) fs5))) o8) _ _ n8
    have f6' : (putF "_names" (.ref a6) fs5).length ≤ 6 := putF_s f5
    generalize hfs6 : putF "_names" (.ref a6) fs5 = fs6 at k9 n9 f6'
    generalize hH9 : upd H8 o (.ins C dx fs6) = H9 at k9 n9
    have o9 : H9 o = some (.ins C dx fs6) := by rw [← hH9]; exact upd_same
    have t9 : Tk c.K H H9 := k9.tk ho
    clear hH9
    have p9 := t9 _ _ h3
    refine ⟨_, rfl, r_nil ⟨a3, _, rfl, .inr p9, fun l fl => ?_⟩⟩
    have g10 : Go [] H9 (upd H9 l (.lst (m.pages.map V.str))) := Go.new fl
    have l10 : SqL c.K (upd H9 l (.lst (m.pages.map V.str))) l (m.pages.map V.str) := .inl (.inl upd_same)
    generalize upd H9 l (.lst (m.pages.map V.str)) = H10 at g10 l10
    refine ⟨_, rfl, r_nil (r_lenT (g10.sqT (t9 _ _ h5)) ?_)⟩
    obtain ⟨c0, cC, ci⟩ := hC
    have lenp : (m.pages.map V.str).length = m.pages.length := by simp
    have lenf : (m.first.map V.str).length = m.first.length := by simp
    have fl' : m.first.length < m.pages.length := by
      simp only [setB, Bool.and_eq_true, decide_eq_true_eq] at b5
      exact b5.2.2.1
    refine r_nil ⟨l, _, _, cs, rfl, l10, by rw [lenf, lenp]; omega, by rw [lenp]; exact pl, by rw [lenf]; exact c0, by rw [lenp]; exact cC, by rw [lenp]; exact ci, fun H11 a7 ts k11 e7 lts ets => ?_⟩
    have g11 : Go [] H9 H11 := g10.trans ⟨fun b u _ e => k11 b u e, fun b u _ e => k11 b u e⟩
    have o11 : H11 o = some (.ins C dx fs6) := g11.old o _ (fun z => nomatch z) o9
    refine ⟨_, rfl, o, C, dx, fs6, rfl, o11, F.cls, nA _ (by decide), by omega, ?_⟩
    have kk : Keep o H11 (upd H11 o (.ins C dx (putF "_sets" (.ref a7) fs6))) := Keep.upd
    have k12 : Keep o H (upd H11 o (.ins C dx (putF "_sets" (.ref a7) fs6))) := (k9.trans (Go.keep g11)).trans Keep.upd
    have tt := Keep.tk (K := c.K) kk o11
    have n12 := tt _ _ (g11.sqT n9)
    have s12 : SqT c.K (upd H11 o (.ins C dx (putF "_sets" (.ref a7) fs6))) a7 (ts.map V.ref) := tt _ _ (.inl (.inl e7))
    have e12 : ∀ (j : Nat) (t : Addr) (ix : List Nat), ts[j]? = some t → cs[j]? = some ix → SqT c.K (upd H11 o (.ins C dx (putF "_sets" (.ref a7) fs6))) t (ix.map fun i => (m.pages.map V.str).getD i .non) := fun j t ix z1 z2 => tt _ _ (.inl (.inl (ets j t ix z1 z2)))
    have f7' : (putF "_sets" (.ref a7) fs6).length ≤ 7 := putF_s f6'
    clear kk tt
    generalize hfs7 : putF "_sets" (.ref a7) fs6 = fs7 at k12 n12 s12 e12 f7'
    generalize hH12 : upd H11 o (.ins C dx fs7) = H12 at k12 n12 s12 e12
    have o12 : H12 o = some (.ins C dx fs7) := by rw [← hH12]; exact upd_same
    have t12 : Tk c.K H H12 := k12.tk ho
    clear hH12
    have nd : (m.steps.map Stp.name).Nodup := by
      simp only [stepsB, Bool.and_eq_true, decide_eq_true_eq] at b1
      exact b1.2.2.2.1
    obtain ⟨us, u1, u2, u3⟩ := h1.tk t12
    refine .inl (.inr ⟨_, rfl, a1, rfl, ⟨_, u1⟩, fun d1 hd1 => ?_⟩)
    refine dc_map (walk_tup (xs := us)) (fun i kvs _ => i ≤ m.steps.length ∧ kvs = (m.steps.take i).map fun s => (.inr s.name, pgV s.page)) yk_at hd1 (fun H' g => g.sqT u1) ⟨Nat.zero_le _, rfl⟩ (fun _ _ _ _ _ _ h => h) ?_ ?_ ?_
    · rintro i kvs H' ⟨_, rfl⟩
      simp
      omega
    · rintro i y H13 H14 kvs Fin hi g13 ⟨hi2, rfl⟩ ⟨rfl, hx⟩ g14 fin
      obtain ⟨st, hst⟩ : ∃ s, m.steps[i]? = some s := ⟨_, List.getElem?_eq_getElem (by omega)⟩
      obtain ⟨b', f', e, q1, q2⟩ := (u3 i y st hx hst).go g13
      subst e
      refine ⟨b', _, rfl, q1, rfl, _, _, rfl, _, _, rfl, _, _, rfl, rfl, rfl, ?_⟩
      refine ⟨_, rfl, _, rfl, fin (.inr st.name) _ _ (Go.refl _ _) ⟨by omega, ?_⟩⟩
      have ei : m.steps.take (i + 1) = m.steps.take i ++ [st] := by
        rw [List.take_add_one, hst]
        rfl
      rw [ei, List.map_append]
      refine putK_new _ (valV_free fun p hp => ?_)
      obtain ⟨s', hs', rfl⟩ := List.mem_map.mp hp
      obtain ⟨j, hj⟩ := List.mem_iff_getElem?.mp hs'
      have hji : j < i := by
        have := (List.getElem?_eq_some_iff.mp hj).1
        simp at this
        omega
      rw [List.getElem?_take_of_lt hji] at hj
      intro z
      have z' : s'.name = st.name := by simpa using z
      exact nodup_ne nd hj hst (by omega) z'
    rintro H13 kvs g13 ⟨_, rfl⟩ e13
    rw [u2, List.take_length] at e13
    have o13 : H13 o = some (.ins C dx fs7) := g13.old o _ (fun z => nomatch z) o12
    have do1 : d1 ≠ o := fun z => by rw [z, o12] at hd1; cases hd1
    refine ⟨_, rfl, o, C, dx, fs7, rfl, o13, F.cls, nA _ (by decide), by omega, ?_⟩
    have kk : Keep o H13 (upd H13 o (.ins C dx (putF "_page_of" (.ref d1) fs7))) := Keep.upd
    have k14 : Keep o H (upd H13 o (.ins C dx (putF "_page_of" (.ref d1) fs7))) := (k12.trans (Go.keep g13)).trans Keep.upd
    have tt : Tk c.K H12 (upd H13 o (.ins C dx (putF "_page_of" (.ref d1) fs7))) := (Go.tk g13).trans (Keep.tk kk o13)
    have n14 := tt _ _ n12
    have s14 := tt _ _ s12
    have e14 : ∀ (j : Nat) (t : Addr) (ix : List Nat), ts[j]? = some t → cs[j]? = some ix → SqT c.K (upd H13 o (.ins C dx (putF "_page_of" (.ref d1) fs7))) t (ix.map fun i => (m.pages.map V.str).getD i .non) := fun j t ix z1 z2 => tt _ _ (e12 j t ix z1 z2)
    have d14 : (upd H13 o (.ins C dx (putF "_page_of" (.ref d1) fs7))) d1 = some (.dK (m.steps.map fun s => (.inr s.name, pgV s.page))) := kk _ _ do1 e13
    have f8' : (putF "_page_of" (.ref d1) fs7).length ≤ 8 := putF_s f7'
    clear kk tt
    generalize hfs8 : putF "_page_of" (.ref d1) fs7 = fs8 at k14 n14 s14 e14 f8' d14
    generalize hH14 : upd H13 o (.ins C dx fs8) = H14 at k14 n14 s14 e14 d14
    have o14 : H14 o = some (.ins C dx fs8) := by rw [← hH14]; exact upd_same
    have t14 : Tk c.K H H14 := k14.tk ho
    clear hH14
    obtain ⟨xs, x1, x2, x3⟩ := h1.tk t14
    refine .inl (.inr ⟨_, rfl, a1, rfl, ⟨_, x1⟩, fun d2 hd2 => ?_⟩)
    refine dc_map (walk_tup (xs := xs)) (fun i kvs H' => i ≤ m.steps.length ∧ kvs.length = i ∧ ∀ (j : Nat) (s : Stp) (p : Key × V), m.steps[j]? = some s → kvs[j]? = some p → ∃ f, p = (.inr s.name, .ref f) ∧ SqT c.K H' f (s.fol.map V.str)) yk_at hd2 (fun H' g => g.sqT x1)
      ⟨Nat.zero_le _, rfl, fun j s p _ z => by simp at z⟩ (fun i kvs N Ha Hb g h => ⟨h.1, h.2.1, fun j s p z1 z2 => by obtain ⟨f, e, k⟩ := h.2.2 j s p z1 z2; exact ⟨f, e, g.sqT k⟩⟩) ?_ ?_ ?_
    · rintro i kvs H' ⟨z1, z2, _⟩
      omega
    · rintro i y H15 H16 kvs Fin hi g15 ⟨hi2, hl, hall⟩ ⟨rfl, hx⟩ g16 fin
      obtain ⟨st, hst⟩ : ∃ s, m.steps[i]? = some s := ⟨_, List.getElem?_eq_getElem (by omega)⟩
      obtain ⟨b', f', e, q1, q2⟩ := (x3 i y st hx hst).go g15
      subst e
      refine ⟨b', _, rfl, q1, rfl, _, _, rfl, _, _, rfl, _, _, rfl, rfl, rfl, ?_⟩
      have en : putK kvs (.inr st.name) (.ref f') = kvs ++ [(.inr st.name, .ref f')] := by
        refine putK_new _ (valV_free fun p hp => ?_)
        obtain ⟨j, hj⟩ := List.mem_iff_getElem?.mp hp
        have hji : j < i := by
          have := (List.getElem?_eq_some_iff.mp hj).1
          omega
        obtain ⟨s', hs'⟩ : ∃ s, m.steps[j]? = some s := ⟨_, List.getElem?_eq_getElem (by omega)⟩
        obtain ⟨f, ef, _⟩ := hall j s' p hs' hj
        rw [ef]
        intro z
        have z' : s'.name = st.name := by simpa using z
        exact nodup_ne nd hs' hst (by omega) z'
      refine ⟨_, rfl, _, rfl, fin (.inr st.name) _ _ (Go.refl _ _) ⟨by omega, by rw [en]; simp [hl], ?_⟩⟩
      rw [en]
      intro j s p z1 z2
      by_cases hj : j < kvs.length
      · rw [List.getElem?_append_left hj] at z2
        exact hall j s p z1 z2
      · have hj2 : j = kvs.length := by
          have := (List.getElem?_eq_some_iff.mp z2).1
          simp at this
          omega
        subst hj2
        rw [List.getElem?_append_right (Nat.le_refl _)] at z2
        have z3 : p = (.inr st.name, .ref f') := by simpa using z2.symm
        rw [hl, hst] at z1
        cases z1
        exact ⟨f', z3, q2⟩
    rintro H15 kvs g15 ⟨_, hl, hall⟩ e15
    rw [x2] at hl
    have o15 : H15 o = some (.ins C dx fs8) := g15.old o _ (fun z => nomatch z) o14
    have do2 : d2 ≠ o := fun z => by rw [z, o14] at hd2; cases hd2
    refine ⟨_, rfl, o, C, dx, fs8, rfl, o15, F.cls, nA _ (by decide), by omega, ?_⟩
    have kk : Keep o H15 (upd H15 o (.ins C dx (putF "_following_of" (.ref d2) fs8))) := Keep.upd
    have k16 : Keep o H (upd H15 o (.ins C dx (putF "_following_of" (.ref d2) fs8))) := (k14.trans (Go.keep g15)).trans Keep.upd
    have tt : Tk c.K H14 (upd H15 o (.ins C dx (putF "_following_of" (.ref d2) fs8))) := (Go.tk g15).trans (Keep.tk kk o15)
    have t15 : Tk c.K H15 (upd H15 o (.ins C dx (putF "_following_of" (.ref d2) fs8))) := Keep.tk kk o15
    have tH := k16.tk (K := c.K) ho
    have d16 := kk _ _ do1 (g15.old d1 _ (fun z => nomatch z) d14)
    refine q _ k16 ⟨⟨dx, _, a1, a2, a3, a5, a6, a7, d1, d2, ts, _, kvs, upd_same, ?_, h1.tk tH, ?_, tH _ _ h2, ?_, tH _ _ h3, ?_, ?_, tH _ _ h5, ?_, tt _ _ n14, ?_, tt _ _ s14, lts, fun j t ix z1 z2 => tt _ _ (e14 j t ix z1 z2), ?_, d16, rfl, ?_, kk _ _ do2 e15, hl, fun i s p z1 z2 => ?_, fun f hf => ?_⟩⟩
    all_goals first
      | (rw [← hfs8, ← hfs7, ← hfs6, ← hfs]; simp (decide := true) only [lookup_putF, if_true, if_false, reduceIte]; done)
      | skip
    · obtain ⟨f, ef, kf⟩ := hall i s p z1 z2
      exact ⟨f, ef, t15 _ _ kf⟩
    · simp only [mNames, List.mem_cons, List.not_mem_nil, or_false, not_or] at hf
      obtain ⟨x1, x2, x3, x4, x5, x6, x7, x8, x9⟩ := hf
      rw [← hfs8, ← hfs7, ← hfs6, ← hfs]
      simp only [lookup_putF, x1, x2, x3, x4, x5, x6, x7, x8, x9, if_false]
      rfl
theorem ok_Machine_init (F : ClAt c "Machine" "Machine.__init__" C s_Machine___init__ P_Machine___init__) (B : Bi c) (B' : Bm c) (D_are_steps : Ok c "are_steps" 4 P_are_steps (spSteps c)) (D_is_clock : Ok c "is_clock" 3 P_is_clock (spClock c))
    (D_are_pages : Ok c "are_pages" 3 P_are_pages (spPages c)) (D_is_integer_in : Ok c "is_integer_in" 2 P_is_integer_in (spIn c)) (D_is_set : Ok c "is_set" 3 P_is_set (spSet c))
    (nA : ∀ f : Str, f ∈ (["_steps", "_clock", "_pages", "_move", "_first", "_names", "_sets", "_page_of", "_following_of"] : List Str) → NoAttr c.K C f) : MkO c "Machine" C 5 P_Machine___init__ (spMac c C) :=
  mak_of F sc_Machine___init__ len_Machine_init (body_Machine_init F B B' D_are_steps D_is_clock D_are_pages D_is_integer_in D_is_set nA)
end
end Sd

namespace Sd
open PySem PySem.Spec PyProof.Rows L2 RZ RT
/-- a step's name is known -/
def spKnown (c : Wd) (C : Addr) : Sp := fun vs H Q _ => ∃ (o : Addr) (m : Mac) (cs : List (List Nat)) (i : Nat) (st : Stp), vs = [.ref o, .str st.name] ∧ MacAt c.K C H o m cs ∧ m.steps[i]? = some st ∧ ∀ H', Go [] H H' → Q .non H'
def spPage (c : Wd) (C : Addr) : Sp := fun vs H Q _ => ∃ (o : Addr) (m : Mac) (cs : List (List Nat)) (i : Nat) (st : Stp), vs = [.ref o, .str st.name] ∧ MacAt c.K C H o m cs ∧ macB m = true ∧ m.steps[i]? = some st ∧ ∀ H', Go [] H H' → Q (pgV st.page) H'
theorem MacAt.go {K : PySem.W.Frag} {C : Addr} {H H' : Hp} {o : Addr} {m : Mac} {cs : List (List Nat)} (h : MacAt K C H o m cs) (g : Go [] H H') : MacAt K C H' o m cs := by
  obtain ⟨dx, fs, a1, a2, a3, a5, a6, a7, d1, d2, ts, kv1, kv2, e0, e1, e2, e3, e4, e5, e6, e7, e8, e9, e10, e11, e12, e13, e14, e15, e16, e17, e18, e19, e20, e21, e22, e23⟩ := h.ex
  have kp : ∀ b u, H b = some u → H' b = some u := fun b u e => g.old b u (fun z => nomatch z) e
  exact ⟨dx, fs, a1, a2, a3, a5, a6, a7, d1, d2, ts, kv1, kv2, kp _ _ e0, e1, e2.go g, e3, g.sqT e4, e5, g.sqT e6, e7, e8, g.sqT e9, e10, g.sqT e11, e12, g.sqT e13, e14, fun j t ix z1 z2 => g.sqT (e15 j t ix z1 z2), e16, kp _ _ e17, e18, e19, kp _ _ e20, e21,
    fun i s p z1 z2 => by obtain ⟨f, z, z'⟩ := e22 i s p z1 z2; exact ⟨f, z, g.sqT z'⟩, e23⟩
theorem valV_steps {ss : List Stp} (v : Stp → V) (h : (ss.map Stp.name).Nodup) {i : Nat} {st : Stp} (hi : ss[i]? = some st) : valV (ss.map fun s => ((.inr s.name, v s) : Key × V)) (.inr st.name) = some (v st) := by
  induction ss generalizing i with
  | nil => simp at hi
  | cons s ss ih =>
    rw [List.map_cons]
    by_cases e : s.name = st.name
    · rw [valV_pos (by simp [e])]
      cases i with
      | zero =>
        have : s = st := by simpa using hi
        rw [this]
      | succ i =>
        have hi' : ss[i]? = some st := by simpa using hi
        have := (List.nodup_cons.mp h).1
        exact absurd (List.mem_map.mpr ⟨st, List.mem_of_getElem? hi', e.symm⟩) this
    · rw [valV_neg (by simpa using e)]
      cases i with
      | zero =>
        have : s = st := by simpa using hi
        exact absurd (congrArg Stp.name this) e
      | succ i => exact ih (List.nodup_cons.mp h).2 (by simpa using hi)
theorem dget_K {H : Hp} {a : Addr} {kvs : List (Key × V)} {x : Str} {v : V} (h : H a = some (.dK kvs)) (e : valV kvs (.inr x) = some v) : DGet H a (.str x) (some v) := by
  rw [← e]
  exact DGet.k (k := .inr x) h
section
variable {c : Wd} {C : Addr}
abbrev s_Machine__check_step : Stmt := inClass (topS 48) 13
abbrev N_Machine__check_step : List Str := ["self", "name"]
abbrev P_Machine__check_step : List Str := ["self", "name"]
theorem sc_Machine__check_step : FnScope N_Machine__check_step P_Machine__check_step (defScope s_Machine__check_step) := ⟨rfl, rfl, rfl, by decide +kernel, rfl, by decide +kernel, by decide +kernel⟩
theorem ok_Machine__check_step (F : MtAt c C "_check_step" "Machine._check_step" s_Machine__check_step P_Machine__check_step) (B : Bi c) (n1 : NoAttr c.K C "_names") : MtO c C "_check_step" 1 P_Machine__check_step (spKnown c C) := by
  refine mt_of F sc_Machine__check_step (fun vs H Q E h => ?_) (fun f cdv A out s H vs Q E hr h => ?_)
  · obtain ⟨o, m, cs, i, st, rfl, _⟩ := h
    rfl
  · obtain ⟨o, m, cs, i, st, rfl, hM, hi, q⟩ := h
    have hu5 := hr.u5
    refine ⟨_, (pss_one (ps_if (pt_cmpR (op_niU (K := c.K) hu5) (pv 1) (pe_fld (pv 0) rfl) (by rfl)) (pss_one ps_never) pss_nil)), ?_⟩
    obtain ⟨dx, fs, a1, a2, a3, a5, a6, a7, d1, d2, ts, kv1, kv2, e0, e1, e2, e3, e4, e5, e6, e7, e8, e9, e10, e11, _⟩ := hM.ex
    refine ⟨_, rfl, _, rfl, o, C, dx, fs, _, rfl, e0, F.cls, n1, e10, r_niT e11 rfl (flat_strs _) ⟨_, rfl, ?_⟩⟩
    have e : inV (.str st.name) ((m.steps.map Stp.name).map V.str) = true := by
      rw [inV_strs]
      exact decide_eq_true (List.mem_map.mpr ⟨st, List.mem_of_getElem? hi, rfl⟩)
    rw [e]
    exact (if_neg (by simp)).mpr (q _ (Go.refl _ _))
abbrev s_Machine_page : Stmt := inClass (topS 48) 10
abbrev N_Machine_page : List Str := ["self", "name"]
abbrev P_Machine_page : List Str := ["self", "name"]
theorem sc_Machine_page : FnScope N_Machine_page P_Machine_page (defScope s_Machine_page) := ⟨rfl, rfl, rfl, by decide +kernel, rfl, by decide +kernel, by decide +kernel⟩
theorem ok_Machine_page (F : MtAt c C "page" "Machine.page" s_Machine_page P_Machine_page) (B : Bi c) (n1 : NoAttr c.K C "_page_of") (D_Machine__check_step : MtO c C "_check_step" 1 P_Machine__check_step (spKnown c C)) : MtO c C "page" 2 P_Machine_page (spPage c C) := by
  refine mt_of F sc_Machine_page (fun vs H Q E h => ?_) (fun f cdv A out s H vs Q E hr h => ?_)
  · obtain ⟨o, m, cs, i, st, rfl, _⟩ := h
    rfl
  · obtain ⟨o, m, cs, i, st, rfl, hM, hB, hi, q⟩ := h
    have hu1 := hu_of hr
    refine ⟨_, (pss_cons (ps_expr (pe_mtO D_Machine__check_step (hr.mono (by decide)) (pv 0) (pa_cons (pv 1) pa_nil)))
    (pss_one (ps_ret (pe_ixU (K := c.K) hu1 (pe_fld (pv 0) rfl) (pv 1) (fun _ _ => rfl) (fun _ _ => rfl))))), ?_⟩
    obtain ⟨dx, fs, _, _, _, _, _, _, _, _, _, _, _, e0, _, _, _, _, _, _, _, _, _, _, _, _, _, _, _, _, _, _, _, _, _, _, e23⟩ := id hM.ex
    refine ⟨_, rfl, o, dx, fs, rfl, e0, e23 _ (by decide), _, rfl, o, m, cs, i, st, rfl, hM, hi, fun H1 g1 => ?_⟩
    obtain ⟨dx', fs', _, _, _, _, _, _, d1, _, _, kv1, _, k0, _, _, _, _, _, _, _, _, _, _, _, _, _, _, _, k16, k17, k18, _⟩ := (hM.go g1).ex
    have nd : (m.steps.map Stp.name).Nodup := by
      simp only [macB, stepsB, Bool.and_eq_true, decide_eq_true_eq] at hB
      exact hB.1.2.2.2.1
    have ev : valV kv1 (.inr st.name) = some (pgV st.page) := by
      rw [k18]
      exact valV_steps (fun s => pgV s.page) nd hi
    exact .inr ⟨_, rfl, o, C, dx', fs', _, rfl, k0, F.cls, n1, k16, _, rfl, d1, _, rfl, dget_K k17 ev, q _ g1⟩
end
end Sd

namespace Sd
open PySem PySem.Spec PyProof.Rows L2 RZ RT
/-- the names that may follow a known step -/
def spFol (c : Wd) (C : Addr) : Sp := fun vs H Q _ => ∃ (o : Addr) (m : Mac) (cs : List (List Nat)) (i : Nat) (st : Stp), vs = [.ref o, .str st.name] ∧ MacAt c.K C H o m cs ∧ macB m = true ∧ m.steps[i]? = some st ∧ ∀ H' f, Go [] H H' → SqT c.K H' f (st.fol.map V.str) → Q (.ref f) H'
theorem MacAt.fol {K : PySem.W.Frag} {C : Addr} {H : Hp} {o : Addr} {m : Mac} {cs : List (List Nat)} (h : MacAt K C H o m cs) (hB : macB m = true) {i : Nat} {st : Stp} (hi : m.steps[i]? = some st) :
    ∃ (dx : Addr) (fs : List (Str × V)) (d f : Addr), H o = some (.ins C dx fs) ∧ fs.lookup ("_following_of" : Str) = some (.ref d) ∧ DGet H d (.str st.name) (some (.ref f)) ∧ SqT K H f (st.fol.map V.str) := by
  obtain ⟨dx, fs, _, _, _, _, _, _, _, d2, _, _, kv2, k0, _, _, _, _, _, _, _, _, _, _, _, _, _, _, _, _, _, _, k19, k20, k21, k22, _⟩ := h.ex
  have nd : (m.steps.map Stp.name).Nodup := by
    simp only [macB, stepsB, Bool.and_eq_true, decide_eq_true_eq] at hB
    exact hB.1.2.2.2.1
  have hil := (List.getElem?_eq_some_iff.mp hi).1
  obtain ⟨p, hp⟩ : ∃ p, kv2[i]? = some p := ⟨_, List.getElem?_eq_getElem (by omega)⟩
  obtain ⟨f, ep, hf⟩ := k22 i st p hi hp
  refine ⟨dx, fs, d2, f, k0, k19, dget_K k20 ?_, hf⟩
  have gen : ∀ (ss : List Stp) (kvs : List (Key × V)) (i : Nat), (ss.map Stp.name).Nodup → kvs.length = ss.length → (∀ (j : Nat) (s : Stp) (p : Key × V), ss[j]? = some s → kvs[j]? = some p → p.1 = .inr s.name) → ss[i]? = some st → kvs[i]? = some (.inr st.name, .ref f) → valV kvs (.inr st.name) = some (.ref f) := by
    intro ss
    induction ss with
    | nil => intro kvs i _ _ _ h _; simp at h
    | cons s ss ih =>
      intro kvs i hn hl hk hi hp
      cases kvs with
      | nil => simp at hl
      | cons q kvs =>
        have hq := hk 0 s q rfl rfl
        cases i with
        | zero =>
          have e1 : q = (.inr st.name, .ref f) := by simpa using hp
          rw [valV_pos (by rw [e1]), e1]
        | succ i =>
          have hi' : ss[i]? = some st := by simpa using hi
          have ne : ¬ q.1 = .inr st.name := by
            rw [hq]
            intro z
            have z' : s.name = st.name := by simpa using z
            exact (List.nodup_cons.mp hn).1 (List.mem_map.mpr ⟨st, List.mem_of_getElem? hi', z'.symm⟩)
          rw [valV_neg ne]
          exact ih kvs i (List.nodup_cons.mp hn).2 (by simpa using hl) (fun j s' p' h1 h2 => hk (j + 1) s' p' h1 h2) hi' (by simpa using hp)
  refine gen m.steps kv2 i nd k21 (fun j s p' h1 h2 => ?_) hi (by rw [hp, ep])
  obtain ⟨f', e', _⟩ := k22 j s p' h1 h2
  rw [e']
section
variable {c : Wd} {C : Addr}
abbrev s_Machine_following : Stmt := inClass (topS 48) 9
abbrev N_Machine_following : List Str := ["self", "name"]
abbrev P_Machine_following : List Str := ["self", "name"]
theorem sc_Machine_following : FnScope N_Machine_following P_Machine_following (defScope s_Machine_following) := ⟨rfl, rfl, rfl, by decide +kernel, rfl, by decide +kernel, by decide +kernel⟩
theorem ok_Machine_following (F : MtAt c C "following" "Machine.following" s_Machine_following P_Machine_following) (B : Bi c) (n1 : NoAttr c.K C "_following_of") (D_Machine__check_step : MtO c C "_check_step" 1 P_Machine__check_step (spKnown c C)) : MtO c C "following" 2 P_Machine_following (spFol c C) := by
  refine mt_of F sc_Machine_following (fun vs H Q E h => ?_) (fun f cdv A out s H vs Q E hr h => ?_)
  · obtain ⟨o, m, cs, i, st, rfl, _⟩ := h
    rfl
  · obtain ⟨o, m, cs, i, st, rfl, hM, hB, hi, q⟩ := h
    have hu1 := hu_of hr
    refine ⟨_, (pss_cons (ps_expr (pe_mtO D_Machine__check_step (hr.mono (by decide)) (pv 0) (pa_cons (pv 1) pa_nil)))
    (pss_one (ps_ret (pe_ixU (K := c.K) hu1 (pe_fld (pv 0) rfl) (pv 1) (fun _ _ => rfl) (fun _ _ => rfl))))), ?_⟩
    obtain ⟨dx, fs, _, _, _, _, _, _, _, _, _, _, _, e0, _, _, _, _, _, _, _, _, _, _, _, _, _, _, _, _, _, _, _, _, _, _, e23⟩ := id hM.ex
    refine ⟨_, rfl, o, dx, fs, rfl, e0, e23 _ (by decide), _, rfl, o, m, cs, i, st, rfl, hM, hi, fun H1 g1 => ?_⟩
    obtain ⟨dx', fs', d, f', k0, k1, k2, k3⟩ := (hM.go g1).fol hB hi
    exact .inr ⟨_, rfl, o, C, dx', fs', _, rfl, k0, F.cls, n1, k1, _, rfl, d, _, rfl, k2, q _ _ g1 k3⟩
end
end Sd

namespace Sd
open PySem PySem.Spec PyProof.Rows L2 RZ RT
/-- a run, by its names -/
structure RunOk (m : Mac) (ns : List Str) : Prop where
  beg : ∃ s, m.steps[0]? = some s ∧ ns[0]? = some s.name
  nxt : ∀ (j : Nat) (a b : Str), ns[j]? = some a → ns[j + 1]? = some b → ∃ (i : Nat) (st : Stp), m.steps[i]? = some st ∧ st.name = a ∧ b ∈ st.fol
  few : ns.length ≤ 1000
def spIsRun (c : Wd) (C : Addr) : Sp := fun vs H Q _ => ∃ (o r : Addr) (m : Mac) (cs : List (List Nat)) (ns : List Str), vs = [.ref o, .ref r] ∧ MacAt c.K C H o m cs ∧ macB m = true ∧ SqT c.K H r (ns.map V.str) ∧ RunOk m ns ∧ ∀ H', Go [] H H' → Q (.bl true) H'
section
variable {c : Wd} {C : Addr}
abbrev s_Machine_is_run : Stmt := inClass (topS 48) 11
abbrev N_Machine_is_run : List Str := ["self", "value", "ahead", "name"]
abbrev P_Machine_is_run : List Str := ["self", "value"]
theorem sc_Machine_is_run : FnScope N_Machine_is_run P_Machine_is_run (defScope s_Machine_is_run) := ⟨rfl, rfl, rfl, by decide +kernel, rfl, by decide +kernel, by decide +kernel⟩
theorem ok_Machine_is_run (F : MtAt c C "is_run" "Machine.is_run" s_Machine_is_run P_Machine_is_run) (B : Bi c) (nA : ∀ f : Str, f ∈ mNames → NoAttr c.K C f) : MtO c C "is_run" 3 P_Machine_is_run (spIsRun c C) := by
  refine mt_of F sc_Machine_is_run (fun vs H Q E h => ?_) (fun f cdv A out s H vs Q E hr h => ?_)
  · obtain ⟨o, r, m, cs, ns, rfl, _⟩ := h
    rfl
  · obtain ⟨o, r, m, cs, ns, rfl, hM, hB, hs, hR, q⟩ := h
    have hu1 := hu_of hr
    have hu := hr.units
    have hu5 := hr.u5
    refine ⟨_, (pss_cons (ps_if (PW.pt (pw_or (pt_not (pt_val (pe_callB (call_isiU (K := c.K)) (by rfl) B.isinstance (by decide +kernel) (pa_cons (pv 1) (pa_cons (pe_ty "tuple" "tuple" (by rfl) B.tuple (by decide +kernel)) pa_nil))))) (pw_or (pt_cmpR (op_eqU (K := c.K) hu) (pe_callB (call_lenU (K := c.K)) (by rfl) B.len (by decide +kernel) (pa_cons (pv 1) pa_nil)) pe_int (nomark _)) (pw_or1 (pt_cmpR (op_neU (K := c.K) hu) (pe_ixU (K := c.K) hu1 (pv 1) pe_int (fun _ _ => rfl) (fun _ _ => rfl)) (pe_ixU (K := c.K) hu1 (pe_fld (pv 0) rfl) pe_int (fun _ _ => rfl) (fun _ _ => rfl)) (nomark _)))))) (pss_one (ps_ret pe_bl)) pss_nil)
    (pss_cons (ps_set (i := 2) sc_Machine_is_run.nd rfl (by first | exact Or.inl rfl | exact Or.inr rfl) (pe_ixU (K := c.K) hu1 (pv 1) pe_int (fun _ _ => rfl) (fun _ _ => rfl)))
    (pss_cons (ps_for PassesOwn.never rfl (pi_seq (K := c.K) (pe_slice (sl_U (K := c.K)) (pv 1) (po_some pe_int) po_none)) (pg_name (i := 3) sc_Machine_is_run.nd rfl (by first | exact Or.inl rfl | exact Or.inr rfl)) (pss_cons (ps_if (pt_cmpR (op_niU (K := c.K) hu5) (pv 3) (pe_ixU (K := c.K) hu1 (pe_fld (pv 0) rfl) (pv 2) (fun _ _ => rfl) (fun _ _ => rfl)) (by rfl)) (pss_one (ps_ret pe_bl)) pss_nil)
    (pss_one (ps_set (i := 2) sc_Machine_is_run.nd rfl (by first | exact Or.inl rfl | exact Or.inr rfl) (pv 3)))))
    (pss_one (ps_ret pe_bl))))), ?_⟩
    refine ⟨_, rfl, r_c (r_nil (r_isTup (dp_names hs) ⟨_, rfl, ?_⟩))⟩
    refine (if_neg (by simp [isTup, namesD])).mpr ?_
    obtain ⟨dx, fs, _, _, _, _, a6, _, _, _, _, _, _, e0, _, _, _, _, _, _, _, _, _, e10, e11, _⟩ := id hM.ex
    obtain ⟨s0, hs0, hn0⟩ := hR.beg
    have hlen : (ns.map V.str).length = ns.length := by simp
    have hpos : 1 ≤ ns.length := by
      have := (List.getElem?_eq_some_iff.mp hn0).1
      omega
    refine ⟨_, rfl, r_nil (r_lenT hs ?_)⟩
    refine .inl ⟨rfl, _, rfl, ?_⟩
    have nz : ¬ (V.int ((ns.map V.str).length : Nat) = V.int 0) := by
      rw [hlen]
      intro z
      have z' : ((ns.length : Nat) : Int) = 0 := by simpa using z
      omega
    refine (if_neg (by rw [decide_eq_false nz]; simp)).mpr ?_
    refine .inl ⟨_, rfl, ixT (i := 0) hs (by rw [List.getElem?_map, hn0]; rfl) ?_⟩
    refine .inl ⟨_, rfl, o, C, dx, fs, _, rfl, e0, F.cls, nA _ (by decide), e10, ixT (i := 0) e11 (by rw [List.getElem?_map, List.getElem?_map, hs0]; rfl) ?_⟩
    refine .inl ⟨rfl, _, rfl, ?_⟩
    refine (if_neg (by simp)).mpr ?_
    refine .inl ⟨_, rfl, ixT (i := 0) hs (by rw [List.getElem?_map, hn0]; rfl) ?_⟩
    refine .inl (.inr ⟨_, rfl, 1, rfl, r_slT hs fun b H1 g1 hb => ⟨b, rfl, ⟨_, hb⟩, ?_⟩⟩)
    have ec : cutV (ns.map V.str) (some (1 : Int)) none = (ns.drop 1).map V.str := by
      have := cut_from (xs := ns.map V.str) 1
      rw [List.map_drop]
      exact this
    rw [ec] at hb
    refine for_it (walk_tup (xs := (ns.drop 1).map V.str)) (fun i σ H' => Go [] H1 H' ∧ ∃ a z, ns[i]? = some a ∧ σ = [some (.ref o), some (.ref r), some (.str a), z]) ⟨Go.refl _ _, s0.name, _, hn0, rfl⟩ (fun i σ H' _ h => h.1.sqT hb) ?_ ?_
    · rintro i x σ H2 H3 hi ⟨g2, a, z, ha, rfl⟩ ⟨rfl, hx⟩
      have hx' : ∃ p, ns[i + 1]? = some p ∧ x = .str p := by
        rw [List.getElem?_map, List.getElem?_drop] at hx
        cases h : ns[1 + i]? with
        | none => rw [h] at hx; simp at hx
        | some p => rw [h] at hx; exact ⟨p, by rw [Nat.add_comm]; exact h, by simpa using hx.symm⟩
      obtain ⟨p, hp, rfl⟩ := hx'
      obtain ⟨k, st, hk, rfl, hin⟩ := hR.nxt i a p ha hp
      obtain ⟨dx', fs', d, f', k0, k1, k2, k3⟩ := (hM.go (g1.trans g2)).fol hB hk
      refine ⟨_, rfl, .inr ⟨_, rfl, o, C, dx', fs', _, rfl, k0, F.cls, nA _ (by decide), k1, _, rfl, d, _, rfl, k2, r_niT k3 rfl (flat_strs _) ⟨_, rfl, ?_⟩⟩⟩
      have e : inV (.str p) (st.fol.map V.str) = true := by
        rw [inV_strs]
        exact decide_eq_true hin
      rw [e]
      refine (if_neg (by simp)).mpr ?_
      exact ⟨_, rfl, g2, p, _, hp, rfl⟩
    · rintro σ H2 ⟨g2, _⟩
      exact q _ (g1.trans g2)
end
end Sd

namespace Sd
open PySem PySem.Spec PyProof.Rows L2 RZ RT
/-- what a property hands out: the instance's field -/
def spGet (C : Addr) (f : Str) : Sp := fun vs H Q _ => ∃ a dx fs v, vs = [.ref a] ∧ H a = some (.ins C dx fs) ∧ fs.lookup f = some v ∧ Q v H
section
variable {c : Wd} {C : Addr}
abbrev s_Machine_steps : Stmt := inClass (topS 48) 1
abbrev N_Machine_steps : List Str := ["self"]
abbrev P_Machine_steps : List Str := ["self"]
theorem sc_Machine_steps : FnScope N_Machine_steps P_Machine_steps (defScope s_Machine_steps) := ⟨rfl, rfl, rfl, by decide +kernel, rfl, by decide +kernel, by decide +kernel⟩
theorem ok_Machine_steps (F : PrAt c C "steps" "Machine.steps" s_Machine_steps P_Machine_steps) (n1 : NoAttr c.K C "_steps") : PrO c C "steps" 1 P_Machine_steps (spGet C "_steps") := by
  refine pr_of F sc_Machine_steps (fun vs H Q E h => ?_) (fun g cdv A out s H vs Q E hr h => ?_)
  · obtain ⟨a, dx, fs, v, rfl, _⟩ := h
    rfl
  · obtain ⟨a, dx, fs, v, rfl, ho, hf, q⟩ := h
    refine ⟨_, (pss_one (ps_ret (pe_fld (pv 0) rfl))), ?_⟩
    exact ⟨_, rfl, a, C, dx, fs, v, rfl, ho, F.cls, n1, hf, q⟩
abbrev s_Machine_clock : Stmt := inClass (topS 48) 2
abbrev N_Machine_clock : List Str := ["self"]
abbrev P_Machine_clock : List Str := ["self"]
theorem sc_Machine_clock : FnScope N_Machine_clock P_Machine_clock (defScope s_Machine_clock) := ⟨rfl, rfl, rfl, by decide +kernel, rfl, by decide +kernel, by decide +kernel⟩
theorem ok_Machine_clock (F : PrAt c C "clock" "Machine.clock" s_Machine_clock P_Machine_clock) (n1 : NoAttr c.K C "_clock") : PrO c C "clock" 1 P_Machine_clock (spGet C "_clock") := by
  refine pr_of F sc_Machine_clock (fun vs H Q E h => ?_) (fun g cdv A out s H vs Q E hr h => ?_)
  · obtain ⟨a, dx, fs, v, rfl, _⟩ := h
    rfl
  · obtain ⟨a, dx, fs, v, rfl, ho, hf, q⟩ := h
    refine ⟨_, (pss_one (ps_ret (pe_fld (pv 0) rfl))), ?_⟩
    exact ⟨_, rfl, a, C, dx, fs, v, rfl, ho, F.cls, n1, hf, q⟩
abbrev s_Machine_pages : Stmt := inClass (topS 48) 3
abbrev N_Machine_pages : List Str := ["self"]
abbrev P_Machine_pages : List Str := ["self"]
theorem sc_Machine_pages : FnScope N_Machine_pages P_Machine_pages (defScope s_Machine_pages) := ⟨rfl, rfl, rfl, by decide +kernel, rfl, by decide +kernel, by decide +kernel⟩
theorem ok_Machine_pages (F : PrAt c C "pages" "Machine.pages" s_Machine_pages P_Machine_pages) (n1 : NoAttr c.K C "_pages") : PrO c C "pages" 1 P_Machine_pages (spGet C "_pages") := by
  refine pr_of F sc_Machine_pages (fun vs H Q E h => ?_) (fun g cdv A out s H vs Q E hr h => ?_)
  · obtain ⟨a, dx, fs, v, rfl, _⟩ := h
    rfl
  · obtain ⟨a, dx, fs, v, rfl, ho, hf, q⟩ := h
    refine ⟨_, (pss_one (ps_ret (pe_fld (pv 0) rfl))), ?_⟩
    exact ⟨_, rfl, a, C, dx, fs, v, rfl, ho, F.cls, n1, hf, q⟩
abbrev s_Machine_move : Stmt := inClass (topS 48) 4
abbrev N_Machine_move : List Str := ["self"]
abbrev P_Machine_move : List Str := ["self"]
theorem sc_Machine_move : FnScope N_Machine_move P_Machine_move (defScope s_Machine_move) := ⟨rfl, rfl, rfl, by decide +kernel, rfl, by decide +kernel, by decide +kernel⟩
theorem ok_Machine_move (F : PrAt c C "move" "Machine.move" s_Machine_move P_Machine_move) (n1 : NoAttr c.K C "_move") : PrO c C "move" 1 P_Machine_move (spGet C "_move") := by
  refine pr_of F sc_Machine_move (fun vs H Q E h => ?_) (fun g cdv A out s H vs Q E hr h => ?_)
  · obtain ⟨a, dx, fs, v, rfl, _⟩ := h
    rfl
  · obtain ⟨a, dx, fs, v, rfl, ho, hf, q⟩ := h
    refine ⟨_, (pss_one (ps_ret (pe_fld (pv 0) rfl))), ?_⟩
    exact ⟨_, rfl, a, C, dx, fs, v, rfl, ho, F.cls, n1, hf, q⟩
abbrev s_Machine_first : Stmt := inClass (topS 48) 5
abbrev N_Machine_first : List Str := ["self"]
abbrev P_Machine_first : List Str := ["self"]
theorem sc_Machine_first : FnScope N_Machine_first P_Machine_first (defScope s_Machine_first) := ⟨rfl, rfl, rfl, by decide +kernel, rfl, by decide +kernel, by decide +kernel⟩
theorem ok_Machine_first (F : PrAt c C "first" "Machine.first" s_Machine_first P_Machine_first) (n1 : NoAttr c.K C "_first") : PrO c C "first" 1 P_Machine_first (spGet C "_first") := by
  refine pr_of F sc_Machine_first (fun vs H Q E h => ?_) (fun g cdv A out s H vs Q E hr h => ?_)
  · obtain ⟨a, dx, fs, v, rfl, _⟩ := h
    rfl
  · obtain ⟨a, dx, fs, v, rfl, ho, hf, q⟩ := h
    refine ⟨_, (pss_one (ps_ret (pe_fld (pv 0) rfl))), ?_⟩
    exact ⟨_, rfl, a, C, dx, fs, v, rfl, ho, F.cls, n1, hf, q⟩
abbrev s_Machine_names : Stmt := inClass (topS 48) 6
abbrev N_Machine_names : List Str := ["self"]
abbrev P_Machine_names : List Str := ["self"]
theorem sc_Machine_names : FnScope N_Machine_names P_Machine_names (defScope s_Machine_names) := ⟨rfl, rfl, rfl, by decide +kernel, rfl, by decide +kernel, by decide +kernel⟩
theorem ok_Machine_names (F : PrAt c C "names" "Machine.names" s_Machine_names P_Machine_names) (n1 : NoAttr c.K C "_names") : PrO c C "names" 1 P_Machine_names (spGet C "_names") := by
  refine pr_of F sc_Machine_names (fun vs H Q E h => ?_) (fun g cdv A out s H vs Q E hr h => ?_)
  · obtain ⟨a, dx, fs, v, rfl, _⟩ := h
    rfl
  · obtain ⟨a, dx, fs, v, rfl, ho, hf, q⟩ := h
    refine ⟨_, (pss_one (ps_ret (pe_fld (pv 0) rfl))), ?_⟩
    exact ⟨_, rfl, a, C, dx, fs, v, rfl, ho, F.cls, n1, hf, q⟩
abbrev s_Machine_sets : Stmt := inClass (topS 48) 7
abbrev N_Machine_sets : List Str := ["self"]
abbrev P_Machine_sets : List Str := ["self"]
theorem sc_Machine_sets : FnScope N_Machine_sets P_Machine_sets (defScope s_Machine_sets) := ⟨rfl, rfl, rfl, by decide +kernel, rfl, by decide +kernel, by decide +kernel⟩
theorem ok_Machine_sets (F : PrAt c C "sets" "Machine.sets" s_Machine_sets P_Machine_sets) (n1 : NoAttr c.K C "_sets") : PrO c C "sets" 1 P_Machine_sets (spGet C "_sets") := by
  refine pr_of F sc_Machine_sets (fun vs H Q E h => ?_) (fun g cdv A out s H vs Q E hr h => ?_)
  · obtain ⟨a, dx, fs, v, rfl, _⟩ := h
    rfl
  · obtain ⟨a, dx, fs, v, rfl, ho, hf, q⟩ := h
    refine ⟨_, (pss_one (ps_ret (pe_fld (pv 0) rfl))), ?_⟩
    exact ⟨_, rfl, a, C, dx, fs, v, rfl, ho, F.cls, n1, hf, q⟩
end
end Sd

namespace Sd
open PySem PySem.Spec PyProof.Rows L2 RZ RT
/-- the place in the clock of a turn -/
def spPlace (c : Wd) (C : Addr) : Sp := fun vs H Q _ => ∃ (o : Addr) (m : Mac) (cs : List (List Nat)) (n : Nat), vs = [.ref o, .int (n : Int)] ∧ MacAt c.K C H o m cs ∧ macB m = true ∧ ∀ H', Go [] H H' → Q (.int ((n % m.clock.length : Nat) : Int)) H'
section
variable {c : Wd} {C : Addr}
abbrev s_place_of : Stmt := topS 22
abbrev N_place_of : List Str := ["machine", "number"]
abbrev P_place_of : List Str := ["machine", "number"]
theorem sc_place_of : FnScope N_place_of P_place_of (defScope s_place_of) := ⟨rfl, rfl, rfl, by decide +kernel, rfl, by decide +kernel, by decide +kernel⟩
theorem ok_place_of (F : At c "place_of" "place_of" s_place_of P_place_of) (B : Bi c) (D_Machine_clock : PrO c C "clock" 1 P_Machine_clock (spGet C "_clock")) : Ok c "place_of" 3 P_place_of (spPlace c C) := by
  refine Ok.of F sc_place_of (fun vs H Q E h => ?_) (fun f cdv A out s H vs Q E hr h => ?_)
  · obtain ⟨o, m, cs, n, rfl, _⟩ := h
    rfl
  · obtain ⟨o, m, cs, n, rfl, hM, hB, q⟩ := h
    refine ⟨_, (pss_one (ps_ret (pe_op op_modU (pv 1) (pe_callB (call_lenU (K := c.K)) (by rfl) B.len (by decide +kernel) (pa_cons (pe_prO D_Machine_clock (hr.mono (by decide)) (pv 0)) pa_nil))))), ?_⟩
    obtain ⟨dx, fs, _, a2, _, _, _, _, _, _, _, _, _, e0, _, _, e3, e4, _⟩ := id hM.ex
    have hl : (intsV m.clock).length = m.clock.length := by simp [intsV]
    have hp : 1 ≤ m.clock.length := by
      simp only [macB, clockB, Bool.and_eq_true, decide_eq_true_eq] at hB
      exact hB.2.1.1
    refine ⟨_, rfl, _, rfl, o, dx, fs, rfl, e0, o, dx, fs, _, rfl, e0, e3, r_nil (r_lenT e4 ?_)⟩
    refine r_mod (by rw [hl]; omega) fun z _ _ ez => ?_
    have : z = ((n % m.clock.length : Nat) : Int) := by
      rw [ez, hl]
      simp
    rw [this]
    exact q _ (Go.refl _ _)
end
end Sd

namespace Sd
open PySem PySem.Spec PyProof.Rows L2 RZ RT
/-- where the i-th turn begins -/
def stF (ck : List Nat) : Nat → Nat
  | 0 => 0
  | i + 1 => stF ck i + ck.getD (i % ck.length) 0
def turnS (ck : List Nat) (ns : List Str) (j : Nat) : List Str := (ns.drop (stF ck j)).take (ck.getD (j % ck.length) 0)
/-- the turns of a run, as a list of tuples at t -/
structure TurnsAt (K : PySem.W.Frag) (H : Hp) (t : Addr) (ck : List Nat) (ns : List Str) (i : Nat) : Prop where
  ex : ∃ ts : List Addr, H t = some (.lst (ts.map V.ref)) ∧ ts.length = i ∧ ∀ (j : Nat) (a : Addr), ts[j]? = some a → SqT K H a ((turnS ck ns j).map V.str)
def spTurns (c : Wd) (C : Addr) : Sp := fun vs H Q _ => ∃ (o r : Addr) (m : Mac) (cs : List (List Nat)) (ns : List Str), vs = [.ref o, .ref r] ∧ MacAt c.K C H o m cs ∧ macB m = true ∧ SqT c.K H r (ns.map V.str) ∧ RunOk m ns ∧
  ∀ H' t i, H t = none → Go [] H H' → TurnsAt c.K H' t m.clock ns i → ns.length ≤ stF m.clock i → (i = 0 ∨ stF m.clock (i - 1) < ns.length) → Q (.ref t) H'
section
variable {c : Wd} {C : Addr}
abbrev s_turns_of : Stmt := topS 23
abbrev N_turns_of : List Str := ["machine", "run", "turns", "start", "ticks"]
abbrev P_turns_of : List Str := ["machine", "run"]
theorem sc_turns_of : FnScope N_turns_of P_turns_of (defScope s_turns_of) := ⟨rfl, rfl, rfl, by decide +kernel, rfl, by decide +kernel, by decide +kernel⟩
theorem ok_turns_of (F : At c "turns_of" "turns_of" s_turns_of P_turns_of) (B : Bi c) (D_Machine_clock : PrO c C "clock" 1 P_Machine_clock (spGet C "_clock")) (D_Machine_is_run : MtO c C "is_run" 3 P_Machine_is_run (spIsRun c C))
    (D_place_of : Ok c "place_of" 3 P_place_of (spPlace c C)) (nr : ("is_run" : Str) ∉ mNames) : Ok c "turns_of" 4 P_turns_of (spTurns c C) := by
  refine Ok.of F sc_turns_of (fun vs H Q E h => ?_) (fun f cdv A out s H vs Q E hr h => ?_)
  · obtain ⟨o, r, m, cs, ns, rfl, _⟩ := h
    rfl
  · obtain ⟨o, r, m, cs, ns, rfl, hM, hB, hs, hR, q⟩ := h
    have hu1 := hu_of hr
    refine ⟨_, (pss_cons (ps_if (pt_not (pt_val (pe_mtO D_Machine_is_run (hr.mono (by decide)) (pv 0) (pa_cons (pv 1) pa_nil)))) (pss_one ps_never) pss_nil)
    (pss_cons (ps_set (i := 2) sc_turns_of.nd rfl (by first | exact Or.inl rfl | exact Or.inr rfl) (pe_lst pa_nil))
    (pss_cons (ps_set (i := 3) sc_turns_of.nd rfl (by first | exact Or.inl rfl | exact Or.inr rfl) pe_int)
    (pss_cons (ps_while PassesOwn.never (pt_cmpR op_ltU (pv 3) (pe_callB (call_lenU (K := c.K)) (by rfl) B.len (by decide +kernel) (pa_cons (pv 1) pa_nil)) (nomark _)) (pss_cons (ps_set (i := 4) sc_turns_of.nd rfl (by first | exact Or.inl rfl | exact Or.inr rfl) (pe_ixU (K := c.K) hu1 (pe_prO D_Machine_clock (hr.mono (by decide)) (pv 0)) (pe_f D_place_of (hr.mono (by decide)) (by rfl) (pa_cons (pv 0) (pa_cons (pe_callB (call_lenU (K := c.K)) (by rfl) B.len (by decide +kernel) (pa_cons (pv 2) pa_nil)) pa_nil))) (fun _ _ => rfl) (fun _ _ => rfl)))
    (pss_cons (ps_expr (pe_bm PySem.F.plainAttrs_list PySem.F.slot_list_append PySem.F.type_list_append mt_append (pv 2) (pa_cons (pe_slice (sl_U (K := c.K)) (pv 1) (po_some (pv 3)) (po_some (pe_op (op_addU (K := c.K)) (pv 3) (pv 4)))) pa_nil)))
    (pss_one (ps_aug (i := 3) sc_turns_of.nd rfl (by first | exact Or.inl rfl | exact Or.inr rfl) (pv 4) ip_add)))))
    (pss_one (ps_ret (pv 2))))))), ?_⟩
    have hlen : (ns.map V.str).length = ns.length := by simp
    have hck : ∀ i, 1 ≤ m.clock.getD (i % m.clock.length) 0 ∧ m.clock[i % m.clock.length]? = some (m.clock.getD (i % m.clock.length) 0) := by
      simp only [macB, clockB, Bool.and_eq_true, decide_eq_true_eq, List.all_eq_true] at hB
      obtain ⟨_, ⟨c1, _, c3⟩, _⟩ := hB
      intro i
      have hi : i % m.clock.length < m.clock.length := Nat.mod_lt _ (by omega)
      rw [List.getD_eq_getElem?_getD, List.getElem?_eq_getElem hi]
      exact ⟨(c3 _ (List.getElem_mem hi)).1, rfl⟩
    obtain ⟨dx, fs, _, _, _, _, _, _, _, _, _, _, _, e0, _, _, _, _, _, _, _, _, _, _, _, _, _, _, _, _, _, _, _, _, _, _, e23⟩ := id hM.ex
    refine ⟨_, rfl, o, dx, fs, rfl, e0, e23 _ nr, _, rfl, o, r, m, cs, ns, rfl, hM, hB, hs, hR, fun H1 g1 => ⟨_, rfl, (if_neg (by simp)).mpr ?_⟩⟩
    dsimp only [tNext, tSeq, tAsg, tLst, tNil]
    refine ⟨Nat.zero_le _, fun t ft => ?_⟩
    have ft0 : H t = none := by
      cases e : H t with
      | none => rfl
      | some u => rw [g1.old t u (fun z => nomatch z) e] at ft; cases ft
    refine ⟨fun k σ H' => ∃ i, k = ns.length - stF m.clock i ∧ (i = 0 ∨ stF m.clock (i - 1) < ns.length) ∧ Go [] H H' ∧ TurnsAt c.K H' t m.clock ns i ∧ ∃ z, σ = [some (.ref o), some (.ref r), some (.ref t), some (.int ((stF m.clock i : Nat) : Int)), z], ?_, ?_⟩
    · refine ⟨_, 0, rfl, .inl rfl, g1.mut ft0, ⟨[], upd_same, rfl, fun j a h => by simp at h⟩, _, rfl⟩
    rintro k σ H2 ⟨i, rfl, hi, g2, hT, z, rfl⟩
    refine ⟨_, rfl, _, rfl, r_nil (r_lenT (g2.sqT hs) (r_ltI ⟨_, rfl, ?_⟩))⟩
    by_cases hlt : stF m.clock i < ns.length
    · obtain ⟨ts, hl1, hl2, hl3⟩ := hT.ex
      have hM2 := hM.go g2
      obtain ⟨dx2, fs2, _, a2, _, _, _, _, _, _, _, _, _, k0, _, _, k3, k4, _⟩ := id hM2.ex
      have hstep : stF m.clock (i + 1) = stF m.clock i + m.clock.getD (i % m.clock.length) 0 := rfl
      have hc := hck i
      refine (if_pos (by rw [hlen]; simpa using hlt)).mpr ⟨fun σ' H' => Go [] H H' ∧ TurnsAt c.K H' t m.clock ns (i + 1) ∧ ∃ z, σ' = [some (.ref o), some (.ref r), some (.ref t), some (.int ((stF m.clock (i + 1) : Nat) : Int)), z],
        fun σ' H' h' => ⟨ns.length - stF m.clock (i + 1), by omega, i + 1, rfl, .inr hlt, h'⟩, ?_⟩
      refine .inl ⟨_, rfl, o, dx2, fs2, rfl, k0, o, dx2, fs2, _, rfl, k0, k3, ⟨_, rfl, _, rfl, r_nil (r_lenL (SqL.of hl1) (r_nil ⟨o, m, cs, i, by simp [hl2], hM2, hB, fun H3 g3 => ?_⟩))⟩⟩
      refine ixT (i := i % m.clock.length) (g3.sqT k4) (v := .int ((m.clock.getD (i % m.clock.length) 0 : Nat) : Int)) (by rw [intsV, List.getElem?_map, hc.2]; rfl) ?_
      have l3 : H3 t = some (.lst (ts.map V.ref)) := g3.old t _ (fun z => nomatch z) hl1
      have tl : ts.length ≤ 1000 := by
        have : ∀ j, j ≤ stF m.clock j := by
          intro j
          induction j with
          | zero => exact Nat.zero_le _
          | succ j ih =>
            have := (hck j).1
            show j + 1 ≤ stF m.clock j + m.clock.getD (j % m.clock.length) 0
            omega
        have := this i
        have := hR.few
        omega
      refine ⟨_, rfl, .inl ⟨rfl, _, SqL.of l3⟩, _, rfl, _, rfl, _, rfl, _, rfl, _, rfl, r_addI ⟨_, rfl, r_slT ((g2.trans g3).sqT hs) fun b H4 g4 hb => r_nil ?_⟩⟩
      refine ⟨t, ts.map V.ref, .ref b, rfl, rfl, g4.old t _ (fun z => nomatch z) l3, by rw [List.length_map, sizeLine_eq]; omega, ?_⟩
      refine ⟨_, rfl, _, rfl, _, _, rfl, rfl, ?_⟩
      have l4 : H4 t = some (.lst (ts.map V.ref)) := g4.old t _ (fun z => nomatch z) l3
      have gp : Go [t] H4 (upd H4 t (.lst (ts.map V.ref ++ [.ref b]))) := Go.put l4 rfl (List.Mem.head _)
      have ec : ((stF m.clock i : Nat) : Int) + ((m.clock.getD (i % m.clock.length) 0 : Nat) : Int) = ((stF m.clock (i + 1) : Nat) : Int) := by
        rw [hstep]
        exact (Int.natCast_add _ _).symm
      refine ⟨((g2.trans g3).trans g4).mut ft0, ⟨ts ++ [b], by rw [List.map_append]; exact upd_same, by simp [hl2], fun j a hj => ?_⟩, some (.int ((m.clock.getD (i % m.clock.length) 0 : Nat) : Int)), ?_⟩
      · by_cases hjl : j < ts.length
        · rw [List.getElem?_append_left hjl] at hj
          exact gp.sqT (g4.sqT (g3.sqT (hl3 j a hj)))
        · have hj2 : j = ts.length := by
            have := (List.getElem?_eq_some_iff.mp hj).1
            simp at this
            omega
          subst hj2
          have hba : b = a := by simpa using hj
          subst hba
          rw [ec] at hb
          have hcut : cutV (ns.map V.str) (some ((stF m.clock i : Nat) : Int)) (some ((stF m.clock (i + 1) : Nat) : Int)) = (turnS m.clock ns ts.length).map V.str := by
            rw [hl2, cut_in, List.drop_take, turnS, List.map_take, List.map_drop]
            congr 1
            omega
          rw [hcut] at hb
          exact gp.sqT hb
      · show [_, _, _, some (V.int (((stF m.clock i : Nat) : Int) + ((m.clock.getD (i % m.clock.length) 0 : Nat) : Int))), _] = _
        rw [ec]
    · refine (if_neg (by rw [hlen]; simpa using Nat.le_of_not_lt hlt)).mpr ?_
      exact ⟨_, rfl, q H2 t i ft0 g2 hT (by omega) hi⟩
end
end Sd

namespace Sd
open PySem PySem.Spec PyProof.Rows L2 RZ RT
/-- right pages to watch -/
def watB (ps fs : List Str) : Bool := namesB fs && (decide (fs.length ≤ 1000) && fs.all fun f => decide (f ∈ ps))
def spPagesOf (c : Wd) (C : Addr) : Sp := fun vs H Q _ => ∃ (o b : Addr) (m : Mac) (cs : List (List Nat)) (fs : List Str), vs = [.ref o, .ref b] ∧ MacAt c.K C H o m cs ∧ SqT c.K H b (fs.map V.str) ∧ watB m.pages fs = true ∧ ∀ H', Go [] H H' → Q (.bl true) H'
/-- for each watched page, whether it is among pages -/
def marksS (ws ps : List Str) : List Bool := ws.map fun w => decide (w ∈ ps)
def spMarks (c : Wd) : Sp := fun vs H Q _ => ∃ (a b : Addr) (ws ps : List Str), vs = [.ref a, .ref b] ∧ SqT c.K H a (ws.map V.str) ∧ SqT c.K H b (ps.map V.str) ∧ ws.length ≤ 1000 ∧ ∀ H' t, Go [] H H' → SqT c.K H' t ((marksS ws ps).map V.bl) → Q (.ref t) H'
section
variable {c : Wd} {C : Addr}
abbrev s_are_pages_of : Stmt := topS 21
abbrev N_are_pages_of : List Str := ["machine", "value", "page"]
abbrev P_are_pages_of : List Str := ["machine", "value"]
theorem sc_are_pages_of : FnScope N_are_pages_of P_are_pages_of (defScope s_are_pages_of) := ⟨rfl, rfl, rfl, by decide +kernel, rfl, by decide +kernel, by decide +kernel⟩
theorem ok_are_pages_of (F : At c "are_pages_of" "are_pages_of" s_are_pages_of P_are_pages_of) (B : Bi c) (D_Machine_pages : PrO c C "pages" 1 P_Machine_pages (spGet C "_pages")) (D_are_ascending_names : Ok c "are_ascending_names" 2 P_are_ascending_names (spB c szTs ascNames)) :
    Ok c "are_pages_of" 3 P_are_pages_of (spPagesOf c C) := by
  refine Ok.of F sc_are_pages_of (fun vs H Q E h => ?_) (fun f cdv A out s H vs Q E hr h => ?_)
  · obtain ⟨o, b, m, cs, fs, rfl, _⟩ := h
    rfl
  · obtain ⟨o, b, m, cs, fs, rfl, hM, hb, hB, q⟩ := h
    have hu5 := hr.u5
    simp only [watB, Bool.and_eq_true, decide_eq_true_eq, List.all_eq_true] at hB
    obtain ⟨b1, b2, b3⟩ := hB
    refine ⟨_, (pss_one (ps_ret (pe_and (pe_f D_are_ascending_names (hr.mono (by decide)) (by rfl) (pa_cons (pv 1) pa_nil)) (pe_one (pe_callB (call_allU (K := c.K) rfl) (by rfl) B.all (by decide +kernel) (pa_cons (pe_lc (own := [("page", 2)]) rfl sc_are_pages_of.nd (pi_seq (K := c.K) (pv 1)) (blkOk_by (N := N_are_pages_of) (sc := defScope s_are_pages_of) (by decide +kernel)) (fun _ _ _ _ _ => (pg_name (i := 2) sc_are_pages_of.nd rfl (by first | exact Or.inl rfl | exact Or.inr rfl))) (fun _ _ _ _ _ => pts_nil) (fun _ _ _ _ _ => (pe_cmpR (op_inU (K := c.K) hu5) (pv 2) (pe_prO D_Machine_pages (hr.mono (by decide)) (pv 0)) (by rfl)))) pa_nil)))))), ?_⟩
    refine ⟨_, rfl, _, namesD fs, rfl, dp_names hb, names_sz b1 (by omega), fun H1 g1 => ⟨_, rfl, ?_⟩⟩
    rw [ascNames_names b1]
    refine (if_pos rfl).mpr ?_
    have hb1 := g1.sqT hb
    have hlen : (fs.map V.str).length = fs.length := by simp
    have hM1 := hM.go g1
    refine .inl (.inr ⟨_, rfl, b, rfl, ⟨_, hb1⟩, fun D hD => ?_⟩)
    refine lc_map (walk_tup (xs := fs.map V.str)) [] (fun _ _ => True) (fun i y _ => ∃ w : Str, fs[i]? = some w ∧ y = .bl true) yk_at
      (by omega) hD (fun _ h => nomatch h) (fun H' g => g.sqT hb1) trivial (fun _ _ _ _ _ => trivial) (fun _ _ _ _ _ _ h => h) ?_ ?_
    · rintro i y H2 H3 Fin hi g2 g3 _ ⟨rfl, hx⟩ fin
      have hx' : ∃ p, fs[i]? = some p ∧ y = .str p := by
        simp only [List.getElem?_map] at hx
        cases h : fs[i]? with
        | none => simp [h] at hx
        | some p => exact ⟨p, rfl, by simpa [h] using hx.symm⟩
      obtain ⟨p, hp, rfl⟩ := hx'
      obtain ⟨dx, fds, _, _, a3, _, _, _, _, _, _, _, _, e0, _, _, _, _, e5, e6, _⟩ := (hM1.go g2).ex
      refine ⟨rfl, _, rfl, _, rfl, o, dx, fds, rfl, e0, o, dx, fds, _, rfl, e0, e5, r_inT e6 rfl (flat_strs _) ?_⟩
      have e : inV (.str p) (m.pages.map V.str) = true := by
        rw [inV_strs]
        exact decide_eq_true (b3 p (List.mem_of_getElem? hp))
      rw [e]
      exact fin _ _ (Go.refl _ _) trivial ⟨p, hp, rfl⟩
    · intro H2 ys g2 _ hD2 hl2 hr'
      have ey : ys = (fs.map fun _ => true).map V.bl := by
        rw [List.map_map]
        exact list_of (by omega) fun i y e => by obtain ⟨s, h, h'⟩ := hr' i y e; exact ⟨s, h, h'⟩
      subst ey
      refine r_nil (r_all (SqL.of hD2) ?_)
      have e1 : (fs.map fun _ => true).all id = true := by
        rw [List.all_map]
        exact List.all_eq_true.mpr fun _ _ => rfl
      rw [e1]
      exact q H2 (g1.trans g2)
abbrev s_marks_of : Stmt := topS 28
abbrev N_marks_of : List Str := ["watched", "pages", "page"]
abbrev P_marks_of : List Str := ["watched", "pages"]
theorem sc_marks_of : FnScope N_marks_of P_marks_of (defScope s_marks_of) := ⟨rfl, rfl, rfl, by decide +kernel, rfl, by decide +kernel, by decide +kernel⟩
theorem ok_marks_of (F : At c "marks_of" "marks_of" s_marks_of P_marks_of) (B : Bi c) : Ok c "marks_of" 1 P_marks_of (spMarks c) := by
  refine Ok.of F sc_marks_of (fun vs H Q E h => ?_) (fun f cdv A out s H vs Q E hr h => ?_)
  · obtain ⟨a, b, ws, ps, rfl, _⟩ := h
    rfl
  · obtain ⟨a, b, ws, ps, rfl, ha, hb, hl, q⟩ := h
    have hu5 := hr.u5
    have hlen : (ws.map V.str).length = ws.length := by simp
    refine ⟨_, (pss_one (ps_ret (pe_callTy (call_tupU (K := c.K)) (by rfl) B.tuple (by decide +kernel) (pa_cons (pe_lc (own := [("page", 2)]) rfl sc_marks_of.nd (pi_seq (K := c.K) (pv 0)) (blkOk_by (N := N_marks_of) (sc := defScope s_marks_of) (by decide +kernel)) (fun _ _ _ _ _ => (pg_name (i := 2) sc_marks_of.nd rfl (by first | exact Or.inl rfl | exact Or.inr rfl))) (fun _ _ _ _ _ => pts_nil) (fun _ _ _ _ _ => (pe_cmpR (op_inU (K := c.K) hu5) (pv 2) (pv 1) (by rfl)))) pa_nil)))), ?_⟩
    refine .inl (.inr ⟨_, rfl, a, rfl, ⟨_, ha⟩, fun D hD => ?_⟩)
    refine lc_map (walk_tup (xs := ws.map V.str)) [] (fun _ _ => True) (fun i y _ => ∃ w : Str, ws[i]? = some w ∧ y = .bl (decide (w ∈ ps))) yk_at
      (by omega) hD (fun _ h => nomatch h) (fun H' g => g.sqT ha) trivial (fun _ _ _ _ _ => trivial) (fun _ _ _ _ _ _ h => h) ?_ ?_
    · rintro i y H2 H3 Fin hi g2 g3 _ ⟨rfl, hx⟩ fin
      have hx' : ∃ p, ws[i]? = some p ∧ y = .str p := by
        simp only [List.getElem?_map] at hx
        cases h : ws[i]? with
        | none => simp [h] at hx
        | some p => exact ⟨p, rfl, by simpa [h] using hx.symm⟩
      obtain ⟨p, hp, rfl⟩ := hx'
      refine ⟨rfl, _, rfl, _, rfl, r_inT (g2.sqT hb) rfl (flat_strs _) ?_⟩
      rw [inV_strs]
      exact fin _ _ (Go.refl _ _) trivial ⟨p, hp, rfl⟩
    · intro H2 ys g2 _ hD2 hl2 hr'
      have ey : ys = (marksS ws ps).map V.bl := by
        unfold marksS
        rw [List.map_map]
        exact list_of (by omega) fun i y e => by obtain ⟨s, h, h'⟩ := hr' i y e; exact ⟨s, h, h'⟩
      subst ey
      exact r_nil ⟨D, _, rfl, .inl ⟨SqL.of hD2, fun t ft => q _ t (g2.trans (Go.new ft)) (.inl (.inl upd_same))⟩⟩
end
end Sd

namespace Sd
open PySem PySem.Spec PyProof.Rows L2 RZ RT
/-- a watch stands at w -/
structure WatAt (K : PySem.W.Frag) (H : Hp) (w : Addr) (ws : List (List Str)) : Prop where
  ex : ∃ as : List Addr, SqT K H w (as.map V.ref) ∧ as.length = ws.length ∧ ∀ (j : Nat) (a : Addr) (fs : List Str), as[j]? = some a → ws[j]? = some fs → SqT K H a (fs.map V.str)
theorem WatAt.go {K : PySem.W.Frag} {M : List Addr} {H H' : Hp} {w : Addr} {ws : List (List Str)} (h : WatAt K H w ws) (g : Go M H H') : WatAt K H' w ws := by
  obtain ⟨as, h1, h2, h3⟩ := h.ex
  exact ⟨as, g.sqT h1, h2, fun j a fs e1 e2 => g.sqT (h3 j a fs e1 e2)⟩
/-- data of the tuples at those addresses -/
theorem dpA_refs {K : PySem.W.Frag} {H : Hp} : ∀ (as : List Addr) (ws : List (List Str)), as.length = ws.length → (∀ (j : Nat) (a : Addr) (fs : List Str), as[j]? = some a → ws[j]? = some fs → SqT K H a (fs.map V.str)) → DpAll K H (as.map V.ref) (ws.map namesD)
  | [], [], _, _ => .nil
  | a :: as, w :: ws, h, k => .cons (dp_names (k 0 a w rfl rfl)) (dpA_refs as ws (by simpa using h) fun j a' f e1 e2 => k (j + 1) a' f e1 e2)
  | [], _ :: _, h, _ => by simp at h
  | _ :: _, [], h, _ => by simp at h
def watchB (m : Mac) (ws : List (List Str)) : Bool := decide (ws.length = m.clock.length) && ws.all (watB m.pages)
def spIsWatch (c : Wd) (C : Addr) (res : V) : Sp := fun vs H Q _ => ∃ (o w : Addr) (m : Mac) (cs : List (List Nat)) (ws : List (List Str)), vs = [.ref o, .ref w] ∧ MacAt c.K C H o m cs ∧ macB m = true ∧ WatAt c.K H w ws ∧ watchB m ws = true ∧ ∀ H', Go [] H H' → Q res H'
section
variable {c : Wd} {C : Addr}
abbrev s_is_watch : Stmt := topS 25
abbrev N_is_watch : List Str := ["machine", "value", "watched"]
abbrev P_is_watch : List Str := ["machine", "value"]
theorem sc_is_watch : FnScope N_is_watch P_is_watch (defScope s_is_watch) := ⟨rfl, rfl, rfl, by decide +kernel, rfl, by decide +kernel, by decide +kernel⟩
theorem ok_is_watch (F : At c "is_watch" "is_watch" s_is_watch P_is_watch) (B : Bi c) (D_Machine_clock : PrO c C "clock" 1 P_Machine_clock (spGet C "_clock")) (D_are_pages_of : Ok c "are_pages_of" 3 P_are_pages_of (spPagesOf c C)) :
    Ok c "is_watch" 4 P_is_watch (spIsWatch c C (.bl true)) := by
  refine Ok.of F sc_is_watch (fun vs H Q E h => ?_) (fun f cdv A out s H vs Q E hr h => ?_)
  · obtain ⟨o, w, m, cs, ws, rfl, _⟩ := h
    rfl
  · obtain ⟨o, w, m, cs, ws, rfl, hM, hB, hW, hwB, q⟩ := h
    have hu1 := hu_of hr
    have hu := hr.units
    have hu5 := hr.u5
    simp only [watchB, Bool.and_eq_true, decide_eq_true_eq, List.all_eq_true] at hwB
    obtain ⟨wl, wb⟩ := hwB
    have cl : m.clock.length ≤ 3 := by
      simp only [macB, clockB, Bool.and_eq_true, decide_eq_true_eq] at hB
      exact hB.2.1.2.1
    obtain ⟨as, h1, h2, h3⟩ := hW.ex
    obtain ⟨dx, fds, _, a2, _, _, _, _, _, _, _, _, _, e0, _, _, e3, e4, _⟩ := id hM.ex
    have hlen : (as.map V.ref).length = as.length := by simp
    have hck : (intsV m.clock).length = m.clock.length := by simp [intsV]
    refine ⟨_, (pss_cons (ps_if (PW.pt (pw_or (pt_not (pt_val (pe_callB (call_isiU (K := c.K)) (by rfl) B.isinstance (by decide +kernel) (pa_cons (pv 1) (pa_cons (pe_ty "tuple" "tuple" (by rfl) B.tuple (by decide +kernel)) pa_nil))))) (pw_or1 (pt_cmpR (op_neU (K := c.K) hu) (pe_callB (call_lenU (K := c.K)) (by rfl) B.len (by decide +kernel) (pa_cons (pv 1) pa_nil)) (pe_callB (call_lenU (K := c.K)) (by rfl) B.len (by decide +kernel) (pa_cons (pe_prO D_Machine_clock (hr.mono (by decide)) (pv 0)) pa_nil)) (nomark _))))) (pss_one (ps_ret pe_bl)) pss_nil)
    (pss_one (ps_ret (pe_callB (call_allU (K := c.K) rfl) (by rfl) B.all (by decide +kernel) (pa_cons (pe_lc (own := [("watched", 2)]) rfl sc_is_watch.nd (pi_seq (K := c.K) (pv 1)) (blkOk_by (N := N_is_watch) (sc := defScope s_is_watch) (by decide +kernel)) (fun _ _ _ _ _ => (pg_name (i := 2) sc_is_watch.nd rfl (by first | exact Or.inl rfl | exact Or.inr rfl))) (fun _ _ _ _ _ => pts_nil) (fun _ _ _ _ _ => (pe_f D_are_pages_of (hr.mono (by decide)) (by rfl) (pa_cons (pv 0) (pa_cons (pv 2) pa_nil))))) pa_nil))))), ?_⟩
    refine ⟨_, rfl, r_c (r_nil (r_isTup (.tup h1 (dpA_refs as ws h2 h3)) ⟨_, rfl, ?_⟩))⟩
    refine (if_neg (by simp [isTup])).mpr ?_
    refine ⟨_, rfl, r_nil (r_lenT h1 ⟨_, rfl, o, dx, fds, rfl, e0, o, dx, fds, _, rfl, e0, e3, r_nil (r_lenT e4 (.inl ⟨rfl, _, rfl, ?_⟩))⟩)⟩
    have en : V.int ((as.map V.ref).length : Nat) = V.int ((intsV m.clock).length : Nat) := by rw [hlen, hck, h2, wl]
    refine (if_neg (by rw [decide_eq_true en]; simp)).mpr ?_
    refine .inl (.inr ⟨_, rfl, w, rfl, ⟨_, h1⟩, fun D hD => ?_⟩)
    refine lc_map (walk_tup (xs := as.map V.ref)) [] (fun _ _ => True) (fun i y _ => ∃ a : Addr, as[i]? = some a ∧ y = .bl true) yk_at
      (by omega) hD (fun _ h => nomatch h) (fun H' g => g.sqT h1) trivial (fun _ _ _ _ _ => trivial) (fun _ _ _ _ _ _ h => h) ?_ ?_
    · rintro i y H2 H3 Fin hi g2 g3 _ ⟨rfl, hx⟩ fin
      have hx' : ∃ a, as[i]? = some a ∧ y = .ref a := by
        simp only [List.getElem?_map] at hx
        cases h : as[i]? with
        | none => simp [h] at hx
        | some p => exact ⟨p, rfl, by simpa [h] using hx.symm⟩
      obtain ⟨a, ha, rfl⟩ := hx'
      have hil := (List.getElem?_eq_some_iff.mp ha).1
      obtain ⟨fs, hfs⟩ : ∃ fs, ws[i]? = some fs := ⟨_, List.getElem?_eq_getElem (by omega)⟩
      refine ⟨rfl, _, rfl, _, rfl, ?_⟩
      exact ⟨o, a, m, cs, fs, rfl, hM.go g2, g2.sqT (h3 i a fs ha hfs), wb fs (List.mem_of_getElem? hfs), fun H' g => fin _ _ g trivial ⟨a, ha, rfl⟩⟩
    · intro H2 ys g2 _ hD2 hl2 hr'
      have ey : ys = (as.map fun _ => true).map V.bl := by
        rw [List.map_map]
        exact list_of (by omega) fun i y e => by obtain ⟨s, h, h'⟩ := hr' i y e; exact ⟨s, h, h'⟩
      subst ey
      refine r_nil (r_all (SqL.of hD2) ?_)
      have e1 : (as.map fun _ => true).all id = true := by
        rw [List.all_map]
        exact List.all_eq_true.mpr fun _ _ => rfl
      rw [e1]
      exact q H2 g2
abbrev s_check_watch : Stmt := topS 26
abbrev N_check_watch : List Str := ["machine", "watch"]
abbrev P_check_watch : List Str := ["machine", "watch"]
theorem sc_check_watch : FnScope N_check_watch P_check_watch (defScope s_check_watch) := ⟨rfl, rfl, rfl, by decide +kernel, rfl, by decide +kernel, by decide +kernel⟩
theorem ok_check_watch (F : At c "check_watch" "check_watch" s_check_watch P_check_watch) (D_is_watch : Ok c "is_watch" 4 P_is_watch (spIsWatch c C (.bl true))) : Ok c "check_watch" 5 P_check_watch (spIsWatch c C .non) := by
  refine Ok.of F sc_check_watch (fun vs H Q E h => ?_) (fun f cdv A out s H vs Q E hr h => ?_)
  · obtain ⟨o, w, m, cs, ws, rfl, _⟩ := h
    rfl
  · obtain ⟨o, w, m, cs, ws, rfl, hM, hB, hW, hwB, q⟩ := h
    refine ⟨_, (pss_one (ps_if (pt_not (pt_val (pe_f D_is_watch (hr.mono (by decide)) (by rfl) (pa_cons (pv 0) (pa_cons (pv 1) pa_nil))))) (pss_one ps_never) pss_nil)), ?_⟩
    exact ⟨_, rfl, _, rfl, o, w, m, cs, ws, rfl, hM, hB, hW, hwB, fun H1 g1 => ⟨_, rfl, (if_neg (by simp)).mpr (q H1 g1)⟩⟩
end
end Sd

namespace Sd
open PySem PySem.Spec PyProof.Rows L2 RZ RT
theorem range_getD (xs : List Str) : (List.range xs.length).map (fun i => xs.getD i Str.empty) = xs := by
  apply List.ext_getElem?
  intro i
  rw [List.getElem?_map]
  by_cases h : i < xs.length
  · rw [List.getElem?_range h, List.getElem?_eq_getElem h]
    simp [List.getD_eq_getElem?_getD, h]
  · rw [List.getElem?_eq_none (by simpa using Nat.le_of_not_lt h), List.getElem?_eq_none (Nat.le_of_not_lt h)]
    rfl
theorem filt_range (xs : List Str) (p : Str → Bool) : ((List.range xs.length).filter fun i => p (xs.getD i Str.empty)).map (fun i => xs.getD i Str.empty) = xs.filter p := by
  have := List.filter_map (f := fun i => xs.getD i Str.empty) (p := p) (l := List.range xs.length)
  rw [range_getD] at this
  exact this.symm
/-- what a filter over texts has met -/
theorem filt_list {xs : List Str} {p : Str → Bool} {ys : List V} (hl : ys.length = ((List.range xs.length).filter fun i => p (xs.getD i Str.empty)).length)
    (h : ∀ (k : Nat) (y : V) (i : Nat), ys[k]? = some y → ((List.range xs.length).filter fun i => p (xs.getD i Str.empty))[k]? = some i → y = .str (xs.getD i Str.empty)) : ys = (xs.filter p).map V.str := by
  rw [← filt_range, List.map_map]
  apply List.ext_getElem?
  intro k
  by_cases hk : k < ys.length
  · obtain ⟨i, hi⟩ : ∃ i, ((List.range xs.length).filter fun i => p (xs.getD i Str.empty))[k]? = some i := ⟨_, List.getElem?_eq_getElem (by omega)⟩
    rw [List.getElem?_map, hi, List.getElem?_eq_getElem hk]
    exact congrArg some (h k _ i (List.getElem?_eq_getElem hk) hi)
  · rw [List.getElem?_eq_none (Nat.le_of_not_lt hk), List.getElem?_eq_none (by rw [List.length_map]; omega)]
/-- the pages that are not watched -/
def spWithout (c : Wd) : Sp := fun vs H Q _ => ∃ (a b : Addr) (ws ps : List Str), vs = [.ref a, .ref b] ∧ SqT c.K H a (ws.map V.str) ∧ SqT c.K H b (ps.map V.str) ∧ ps.length ≤ 1000 ∧ ∀ H' t, Go [] H H' → SqT c.K H' t ((ps.filter fun p => decide (p ∉ ws)).map V.str) → Q (.ref t) H'
section
variable {c : Wd} {C : Addr}
abbrev s_without_seen : Stmt := topS 29
abbrev N_without_seen : List Str := ["watched", "pages", "page"]
abbrev P_without_seen : List Str := ["watched", "pages"]
theorem sc_without_seen : FnScope N_without_seen P_without_seen (defScope s_without_seen) := ⟨rfl, rfl, rfl, by decide +kernel, rfl, by decide +kernel, by decide +kernel⟩
theorem ok_without_seen (F : At c "without_seen" "without_seen" s_without_seen P_without_seen) (B : Bi c) : Ok c "without_seen" 1 P_without_seen (spWithout c) := by
  refine Ok.of F sc_without_seen (fun vs H Q E h => ?_) (fun f cdv A out s H vs Q E hr h => ?_)
  · obtain ⟨a, b, ws, ps, rfl, _⟩ := h
    rfl
  · obtain ⟨a, b, ws, ps, rfl, ha, hb, hl, q⟩ := h
    have hu5 := hr.u5
    have hlen : (ps.map V.str).length = ps.length := by simp
    refine ⟨_, (pss_one (ps_ret (pe_callTy (call_tupU (K := c.K)) (by rfl) B.tuple (by decide +kernel) (pa_cons (pe_lc (own := [("page", 2)]) rfl sc_without_seen.nd (pi_seq (K := c.K) (pv 1)) (blkOk_by (N := N_without_seen) (sc := defScope s_without_seen) (by decide +kernel)) (fun _ _ _ _ _ => (pg_name (i := 2) sc_without_seen.nd rfl (by first | exact Or.inl rfl | exact Or.inr rfl))) (fun _ _ _ _ _ => pts_one (pt_cmpR (op_niU (K := c.K) hu5) (pv 2) (pv 0) (by rfl))) (fun _ _ _ _ _ => (pv 2))) pa_nil)))), ?_⟩
    refine .inl (.inr ⟨_, rfl, b, rfl, ⟨_, hb⟩, fun D hD => ?_⟩)
    refine lc_fil (walk_tup (xs := ps.map V.str)) [] (fun _ _ => True) (fun i y _ => y = .str (ps.getD i Str.empty)) (fun i => decide (ps.getD i Str.empty ∉ ws)) yk_at
      (by omega) hD (fun _ h => nomatch h) (fun H' g => g.sqT hb) trivial (fun _ _ _ _ _ => trivial) (fun _ _ _ _ _ _ h => h) ?_ ?_
    · rintro i y H2 H3 Fin Skip hi g2 g3 _ ⟨rfl, hx⟩ fin skip
      have hx' : y = .str (ps.getD i Str.empty) := by
        simp only [List.getElem?_map] at hx
        cases h : ps[i]? with
        | none => simp [h] at hx
        | some p => rw [List.getD_eq_getElem?_getD, h]; simpa [h] using hx.symm
      subst hx'
      refine ⟨rfl, _, rfl, _, rfl, r_niT (g2.sqT ha) rfl (flat_strs _) ?_⟩
      rw [inV_strs]
      refine ⟨_, rfl, ?_⟩
      by_cases hw : ps.getD i Str.empty ∈ ws
      · exact (if_neg (by simp only [decide_eq_true hw]; decide)).mpr (skip _ (decide_eq_false (fun z => z hw)) (Go.refl _ _) trivial)
      · exact (if_pos (by simp only [decide_eq_false hw]; decide)).mpr ⟨_, rfl, fin _ _ (decide_eq_true hw) (Go.refl _ _) trivial rfl⟩
    · intro H2 ys g2 _ hD2 hl2 hr'
      rw [hlen] at hl2 hr'
      have ey := filt_list (p := fun p => decide (p ∉ ws)) hl2 (fun k y i e1 e2 => hr' k y i e1 e2)
      subst ey
      exact r_nil ⟨D, _, rfl, .inl ⟨SqL.of hD2, fun t ft => q _ t (g2.trans (Go.new ft)) (.inl (.inl upd_same))⟩⟩
end
end Sd

namespace Sd
open PySem PySem.Spec PyProof.Rows L2 RZ RT
theorem inV_pgs (p : Str) (gs : List (Option Str)) : inV (.str p) (gs.map pgV) = decide (some p ∈ gs) := by
  induction gs with
  | nil => rfl
  | cons g gs ih =>
    show (eqV (pgV g) (.str p) || inV (.str p) (gs.map pgV)) = _
    rw [ih]
    cases g with
    | none =>
      show (false || decide (some p ∈ gs)) = _
      simp
    | some q =>
      show ((q == p) || decide (some p ∈ gs)) = _
      by_cases h : q = p
      · subst h; simp
      · have h2 : ¬ p = q := fun e => h e.symm
        simp [h, h2]
theorem flat_pgs (gs : List (Option Str)) : (gs.map pgV).all flatV = true := by
  rw [List.all_map]
  refine List.all_eq_true.mpr fun g _ => ?_
  cases g <;> rfl
/-- the pages seen so far with those that a turn's steps touch -/
def withS (m : Mac) (ps : List Str) (ss : List Stp) : List Str := m.pages.filter fun p => decide (p ∈ ps) || decide (some p ∈ ss.map Stp.page)
def spWith (c : Wd) (C : Addr) : Sp := fun vs H Q _ => ∃ (o a b : Addr) (m : Mac) (cs : List (List Nat)) (ps : List Str) (ss : List Stp), vs = [.ref o, .ref a, .ref b] ∧ MacAt c.K C H o m cs ∧ macB m = true ∧ SqT c.K H a (ps.map V.str) ∧ SqT c.K H b ((ss.map Stp.name).map V.str) ∧ ss.length ≤ 1000 ∧
  (∀ s ∈ ss, ∃ i : Nat, m.steps[i]? = some s) ∧ ∀ H' t, Go [] H H' → SqT c.K H' t ((withS m ps ss).map V.str) → Q (.ref t) H'
section
variable {c : Wd} {C : Addr}
abbrev s_with_touches : Stmt := topS 27
abbrev N_with_touches : List Str := ["machine", "pages", "names", "touched", "name", "page"]
abbrev P_with_touches : List Str := ["machine", "pages", "names"]
theorem sc_with_touches : FnScope N_with_touches P_with_touches (defScope s_with_touches) := ⟨rfl, rfl, rfl, by decide +kernel, rfl, by decide +kernel, by decide +kernel⟩
theorem ok_with_touches (F : At c "with_touches" "with_touches" s_with_touches P_with_touches) (B : Bi c) (D_Machine_pages : PrO c C "pages" 1 P_Machine_pages (spGet C "_pages")) (D_Machine_page : MtO c C "page" 2 P_Machine_page (spPage c C)) (nr : ("page" : Str) ∉ mNames) : Ok c "with_touches" 3 P_with_touches (spWith c C) := by
  refine Ok.of F sc_with_touches (fun vs H Q E h => ?_) (fun f cdv A out s H vs Q E hr h => ?_)
  · obtain ⟨o, a, b, m, cs, ps, ss, rfl, _⟩ := h
    rfl
  · obtain ⟨o, a, b, m, cs, ps, ss, rfl, hM, hB, ha, hb, hl, hss, q⟩ := h
    have hu5 := hr.u5
    have hlen : ((ss.map Stp.name).map V.str).length = ss.length := by simp
    have hpl : m.pages.length ≤ 4 := by
      simp only [macB, pagesB, Bool.and_eq_true, decide_eq_true_eq] at hB
      exact hB.2.2.1.2.2.1
    refine ⟨_, (pss_cons (ps_set (i := 3) sc_with_touches.nd rfl (by first | exact Or.inl rfl | exact Or.inr rfl) (pe_lc (own := [("name", 4)]) rfl sc_with_touches.nd (pi_seq (K := c.K) (pv 2)) (blkOk_by (N := N_with_touches) (sc := defScope s_with_touches) (by decide +kernel)) (fun _ _ _ _ _ => (pg_name (i := 4) sc_with_touches.nd rfl (by first | exact Or.inl rfl | exact Or.inr rfl))) (fun _ _ _ _ _ => pts_nil) (fun _ _ _ _ _ => (pe_mtO D_Machine_page (hr.mono (by decide)) (pv 0) (pa_cons (pv 4) pa_nil)))))
    (pss_one (ps_ret (pe_callTy (call_tupU (K := c.K)) (by rfl) B.tuple (by decide +kernel) (pa_cons (pe_lc (own := [("page", 5)]) rfl sc_with_touches.nd (pi_seq (K := c.K) (pe_prO D_Machine_pages (hr.mono (by decide)) (pv 0))) (blkOk_by (N := N_with_touches) (sc := defScope s_with_touches) (by decide +kernel)) (fun _ _ _ _ _ => (pg_name (i := 5) sc_with_touches.nd rfl (by first | exact Or.inl rfl | exact Or.inr rfl))) (fun _ _ _ _ _ => pts_one (PW.pt (pw_or (pt_cmpR (op_inU (K := c.K) hu5) (pv 5) (pv 1) (by rfl)) (pw_or1 (pt_cmpR (op_inU (K := c.K) hu5) (pv 5) (pv 3) (by rfl)))))) (fun _ _ _ _ _ => (pv 5))) pa_nil))))), ?_⟩
    refine .inl (.inr ⟨_, rfl, b, rfl, ⟨_, hb⟩, fun D hD => ?_⟩)
    refine lc_map (walk_tup (xs := (ss.map Stp.name).map V.str)) [] (fun _ _ => True) (fun i y _ => ∃ s : Stp, ss[i]? = some s ∧ y = pgV s.page) yk_at
      (by omega) hD (fun _ h => nomatch h) (fun H' g => g.sqT hb) trivial (fun _ _ _ _ _ => trivial) (fun _ _ _ _ _ _ h => h) ?_ ?_
    · rintro i y H2 H3 Fin hi g2 g3 _ ⟨rfl, hx⟩ fin
      obtain ⟨st, hst⟩ : ∃ s, ss[i]? = some s := ⟨_, List.getElem?_eq_getElem (by omega)⟩
      have hy : y = .str st.name := by
        rw [List.getElem?_map, List.getElem?_map, hst] at hx
        simpa using hx.symm
      subst hy
      obtain ⟨k, hk⟩ := hss st (List.mem_of_getElem? hst)
      have hM2 := hM.go g2
      obtain ⟨dx, fs, _, _, _, _, _, _, _, _, _, _, _, e0, _, _, _, _, _, _, _, _, _, _, _, _, _, _, _, _, _, _, _, _, _, _, e23⟩ := id hM2.ex
      refine ⟨rfl, _, rfl, o, dx, fs, rfl, e0, e23 _ nr, _, rfl, ?_⟩
      exact ⟨o, m, cs, k, st, rfl, hM2, hB, hk, fun H' g => fin _ _ g trivial ⟨st, hst, rfl⟩⟩
    intro H1 ys g1 _ hD1 hl1 hr1
    have ey : ys = (ss.map Stp.page).map pgV := by
      rw [List.map_map]
      exact list_of (by omega) fun i y e => by obtain ⟨s, h, h'⟩ := hr1 i y e; exact ⟨s, h, h'⟩
    subst ey
    have hM1 := hM.go g1
    obtain ⟨dx, fs, _, _, a3, _, _, _, _, _, _, _, _, e0, _, _, _, _, e5, e6, _⟩ := id hM1.ex
    have hlp : (m.pages.map V.str).length = m.pages.length := by simp
    refine .inl (.inr ⟨_, rfl, o, dx, fs, rfl, e0, o, dx, fs, _, rfl, e0, e5, a3, rfl, ⟨_, e6⟩, fun D2 hD2 => ?_⟩)
    refine lc_fil (walk_tup (xs := m.pages.map V.str)) [] (fun _ _ => True) (fun i y _ => y = .str (m.pages.getD i Str.empty)) (fun i => decide (m.pages.getD i Str.empty ∈ ps) || decide (some (m.pages.getD i Str.empty) ∈ ss.map Stp.page)) yk_at
      (by omega) hD2 (fun _ h => nomatch h) (fun H' g => g.sqT e6) trivial (fun _ _ _ _ _ => trivial) (fun _ _ _ _ _ _ h => h) ?_ ?_
    · rintro i y H2 H3 Fin Skip hi g2 g3 _ ⟨rfl, hx⟩ fin skip
      have hx' : y = .str (m.pages.getD i Str.empty) := by
        simp only [List.getElem?_map] at hx
        cases h : m.pages[i]? with
        | none => simp [h] at hx
        | some p => rw [List.getD_eq_getElem?_getD, h]; simpa [h] using hx.symm
      subst hx'
      refine ⟨rfl, _, rfl, _, rfl, r_inT (g2.sqT (g1.sqT ha)) rfl (flat_strs _) ⟨_, rfl, ?_⟩⟩
      rw [inV_strs]
      by_cases hw : m.pages.getD i Str.empty ∈ ps
      · refine (if_pos (decide_eq_true hw)).mpr ((if_pos rfl).mpr ⟨_, rfl, fin _ _ ?_ (Go.refl _ _) trivial rfl⟩)
        rw [decide_eq_true hw, Bool.true_or]
      · refine (if_neg (by rw [decide_eq_false hw]; simp)).mpr ?_
        refine ⟨_, rfl, _, rfl, r_inL (g2.sqL (SqL.of hD1)) rfl (flat_pgs _) ⟨_, rfl, ?_⟩⟩
        rw [inV_pgs]
        by_cases hv : some (m.pages.getD i Str.empty) ∈ ss.map Stp.page
        · refine (if_pos (decide_eq_true hv)).mpr ⟨_, rfl, fin _ _ ?_ (Go.refl _ _) trivial rfl⟩
          rw [decide_eq_true hv, Bool.or_true]
        · refine (if_neg (by rw [decide_eq_false hv]; simp)).mpr (skip _ ?_ (Go.refl _ _) trivial)
          rw [decide_eq_false hw, decide_eq_false hv]
          rfl
    · intro H2 ys g2 _ hD3 hl2 hr'
      rw [hlp] at hl2 hr'
      have ey := filt_list (p := fun p => decide (p ∈ ps) || decide (some p ∈ ss.map Stp.page)) hl2 (fun k y i e1 e2 => hr' k y i e1 e2)
      subst ey
      exact r_nil ⟨D2, _, rfl, .inl ⟨SqL.of hD3, fun t ft => q _ t ((g1.trans g2).trans (Go.new ft)) (.inl (.inl upd_same))⟩⟩
end
end Sd

namespace Sd
open PySem PySem.Spec PyProof.Rows L2 RZ RT
/-- the pages of other that are not in one -/
def comeS (one other : List Str) : List Str := other.filter fun p => decide (p ∉ one)
def spMoving (c : Wd) (C : Addr) : Sp := fun vs H Q _ => ∃ (o a b : Addr) (m : Mac) (cs : List (List Nat)) (one other : List Str), vs = [.ref o, .ref a, .ref b] ∧ MacAt c.K C H o m cs ∧ macB m = true ∧ SqT c.K H a (one.map V.str) ∧ SqT c.K H b (other.map V.str) ∧ other.length ≤ 1000 ∧
  ∀ H', Go [] H H' → Q (.int ((m.move : Int) * ((comeS one other).length : Nat))) H'
section
variable {c : Wd} {C : Addr}
end
end Sd

namespace Sd
open PySem PySem.Spec PyProof.Rows L2 RZ RT
theorem range_get {α : Type} (d : α) (xs : List α) : (List.range xs.length).map (fun i => xs.getD i d) = xs := by
  apply List.ext_getElem?
  intro i
  rw [List.getElem?_map]
  by_cases h : i < xs.length
  · rw [List.getElem?_range h, List.getElem?_eq_getElem h]
    simp [List.getD_eq_getElem?_getD, h]
  · rw [List.getElem?_eq_none (by simpa using Nat.le_of_not_lt h), List.getElem?_eq_none (Nat.le_of_not_lt h)]
    rfl
theorem filt_len {α : Type} (d : α) (xs : List α) (p : α → Bool) : ((List.range xs.length).filter fun i => p (xs.getD i d)).length = (xs.filter p).length := by
  have := List.filter_map (f := fun i => xs.getD i d) (p := p) (l := List.range xs.length)
  rw [range_get] at this
  rw [this, List.length_map]
  rfl
def slowB (fs : List Str) : Option Str → Bool
  | none => false
  | some p => decide (p ∉ fs)
/-- the touches of a turn that are slow -/
def slowS (ss : List Stp) (fs : List Str) : Nat := ((ss.map Stp.page).filter (slowB fs)).length
def spSlow (c : Wd) (C : Addr) : Sp := fun vs H Q _ => ∃ (o a b : Addr) (m : Mac) (cs : List (List Nat)) (ss : List Stp) (fs : List Str), vs = [.ref o, .ref a, .ref b] ∧ MacAt c.K C H o m cs ∧ macB m = true ∧ SqT c.K H a ((ss.map Stp.name).map V.str) ∧ SqT c.K H b (fs.map V.str) ∧ ss.length ≤ 1000 ∧
  (∀ s ∈ ss, ∃ i : Nat, m.steps[i]? = some s) ∧ ∀ H', Go [] H H' → Q (.int (slowS ss fs : Nat)) H'
section
variable {c : Wd} {C : Addr}
end
end Sd

namespace Sd
open PySem PySem.Spec PyProof.Rows L2 RZ RT
/-- the steps of a turn -/
def tS (ck : List Nat) (ss : List Stp) (j : Nat) : List Stp := (ss.drop (stF ck j)).take (ck.getD (j % ck.length) 0)
theorem tS_names (ck : List Nat) (ss : List Stp) (j : Nat) : turnS ck (ss.map Stp.name) j = (tS ck ss j).map Stp.name := by
  simp [turnS, tS, List.map_take, List.map_drop]
/-- what is seen, and not, behind so many turns -/
def seenS (m : Mac) (ws : List (List Str)) (ss : List Stp) : Nat → List (List Bool) × List Str
  | 0 => ([], [])
  | i + 1 =>
    if (tS m.clock ss i).length = m.clock.getD (i % m.clock.length) 0 then
      ((seenS m ws ss i).1 ++ [marksS (ws.getD (i % m.clock.length) []) (withS m (seenS m ws ss i).2 (tS m.clock ss i))], (withS m (seenS m ws ss i).2 (tS m.clock ss i)).filter fun x => decide (x ∉ ws.getD (i % m.clock.length) []))
    else ((seenS m ws ss i).1, withS m (seenS m ws ss i).2 (tS m.clock ss i))
/-- tuples of marks at these addresses -/
def MksAt (K : PySem.W.Frag) (H : Hp) (as : List Addr) (bss : List (List Bool)) : Prop := as.length = bss.length ∧ ∀ (j : Nat) (x : Addr) (bs : List Bool), as[j]? = some x → bss[j]? = some bs → SqT K H x (bs.map V.bl)
theorem MksAt.go {K : PySem.W.Frag} {M : List Addr} {H H' : Hp} {as : List Addr} {bss : List (List Bool)} (h : MksAt K H as bss) (g : Go M H H') : MksAt K H' as bss := ⟨h.1, fun j x bs e1 e2 => g.sqT (h.2 j x bs e1 e2)⟩
theorem MksAt.snoc {K : PySem.W.Frag} {H : Hp} {as : List Addr} {bss : List (List Bool)} {b : Addr} {bs : List Bool} (h : MksAt K H as bss) (hb : SqT K H b (bs.map V.bl)) : MksAt K H (as ++ [b]) (bss ++ [bs]) := by
  refine ⟨by simp [h.1], fun j x cs e1 e2 => ?_⟩
  by_cases hj : j < as.length
  · rw [List.getElem?_append_left hj] at e1
    rw [List.getElem?_append_left (by rw [← h.1]; exact hj)] at e2
    exact h.2 j x cs e1 e2
  · have hj2 : j = as.length := by
      have := (List.getElem?_eq_some_iff.mp e1).1
      simp at this
      omega
    subst hj2
    have e1' : b = x := by simpa using e1
    rw [h.1] at e2
    have e2' : bs = cs := by simpa using e2
    subst e1' e2'
    exact hb
/-- a run of steps of a machine -/
def runOf (m : Mac) (ss : List Stp) : Prop := RunOk m (ss.map Stp.name) ∧ ∀ s ∈ ss, ∃ i : Nat, m.steps[i]? = some s
/-- so many turns a run has -/
def turnsIn (m : Mac) (ss : List Stp) (n : Nat) : Prop := ss.length ≤ stF m.clock n ∧ (n = 0 ∨ stF m.clock (n - 1) < ss.length)
def spSeenU (c : Wd) (C : Addr) : Sp := fun vs H Q _ => ∃ (o w r : Addr) (m : Mac) (cs : List (List Nat)) (ws : List (List Str)) (ss : List Stp), vs = [.ref o, .ref w, .ref r] ∧ MacAt c.K C H o m cs ∧ macB m = true ∧ WatAt c.K H w ws ∧ watchB m ws = true ∧
  SqT c.K H r ((ss.map Stp.name).map V.str) ∧ runOf m ss ∧
  ∀ H' t a b as n, Go [] H H' → SqT c.K H' t [.ref a, .ref b] → SqT c.K H' a (as.map V.ref) → MksAt c.K H' as (seenS m ws ss n).1 → SqT c.K H' b ((seenS m ws ss n).2.map V.str) → turnsIn m ss n → Q (.ref t) H'
theorem mem_tS {m : Mac} {ss : List Stp} {j : Nat} (h : ∀ s ∈ ss, ∃ i : Nat, m.steps[i]? = some s) : ∀ s ∈ tS m.clock ss j, ∃ i : Nat, m.steps[i]? = some s := fun s hs => h s (List.mem_of_mem_drop (List.mem_of_mem_take hs))
theorem len_tS (ck : List Nat) (ss : List Stp) (j : Nat) : (tS ck ss j).length ≤ ss.length := by
  unfold tS
  rw [List.length_take, List.length_drop]
  omega
theorem clk {m : Mac} (hB : macB m = true) (i : Nat) : i % m.clock.length < m.clock.length ∧ 1 ≤ m.clock.getD (i % m.clock.length) 0 ∧ m.clock[i % m.clock.length]? = some (m.clock.getD (i % m.clock.length) 0) := by
  simp only [macB, clockB, Bool.and_eq_true, decide_eq_true_eq, List.all_eq_true] at hB
  obtain ⟨_, ⟨c1, _, c3⟩, _⟩ := hB
  have hi : i % m.clock.length < m.clock.length := Nat.mod_lt _ (by omega)
  refine ⟨hi, ?_⟩
  rw [List.getD_eq_getElem?_getD, List.getElem?_eq_getElem hi]
  exact ⟨(c3 _ (List.getElem_mem hi)).1, rfl⟩
theorem stF_ge {m : Mac} (hB : macB m = true) (j : Nat) : j ≤ stF m.clock j := by
  induction j with
  | zero => exact Nat.zero_le _
  | succ j ih =>
    have := (clk hB j).2.1
    show j + 1 ≤ stF m.clock j + m.clock.getD (j % m.clock.length) 0
    omega
theorem seenS_few (m : Mac) (ws : List (List Str)) (ss : List Stp) (i : Nat) : (seenS m ws ss i).1.length ≤ i := by
  induction i with
  | zero => exact Nat.le_refl _
  | succ i ih =>
    unfold seenS
    split
    · simp
      exact ih
    · exact Nat.le_succ_of_le ih
section
variable {c : Wd} {C : Addr}
abbrev s_seen_and_unseen : Stmt := topS 30
abbrev N_seen_and_unseen : List Str := ["machine", "watch", "run", "found", "pages", "number", "turn", "place"]
abbrev P_seen_and_unseen : List Str := ["machine", "watch", "run"]
theorem sc_seen_and_unseen : FnScope N_seen_and_unseen P_seen_and_unseen (defScope s_seen_and_unseen) := ⟨rfl, rfl, rfl, by decide +kernel, rfl, by decide +kernel, by decide +kernel⟩
theorem ok_seen_and_unseen (F : At c "seen_and_unseen" "seen_and_unseen" s_seen_and_unseen P_seen_and_unseen) (B : Bi c) (D_Machine_clock : PrO c C "clock" 1 P_Machine_clock (spGet C "_clock"))
    (D_check_watch : Ok c "check_watch" 5 P_check_watch (spIsWatch c C .non)) (D_turns_of : Ok c "turns_of" 4 P_turns_of (spTurns c C)) (D_place_of : Ok c "place_of" 3 P_place_of (spPlace c C))
    (D_with_touches : Ok c "with_touches" 3 P_with_touches (spWith c C)) (D_marks_of : Ok c "marks_of" 1 P_marks_of (spMarks c)) (D_without_seen : Ok c "without_seen" 1 P_without_seen (spWithout c)) :
    Ok c "seen_and_unseen" 6 P_seen_and_unseen (spSeenU c C) := by
  refine Ok.of F sc_seen_and_unseen (fun vs H Q E h => ?_) (fun f cdv A out s H vs Q E hr h => ?_)
  · obtain ⟨o, w, r, m, cs, ws, ss, rfl, _⟩ := h
    rfl
  · obtain ⟨o, w, r, m, cs, ws, ss, rfl, hM, hB, hW, hwB, hs, ⟨hR, hss⟩, q⟩ := h
    have hu1 := hu_of hr
    have hu := hr.units
    have hu5 := hr.u5
    refine ⟨_, (pss_cons (ps_expr (pe_f D_check_watch (hr.mono (by decide)) (by rfl) (pa_cons (pv 0) (pa_cons (pv 1) pa_nil))))
    (pss_cons (ps_set (i := 3) sc_seen_and_unseen.nd rfl (by first | exact Or.inl rfl | exact Or.inr rfl) (pe_lst pa_nil))
    (pss_cons (ps_set (i := 4) sc_seen_and_unseen.nd rfl (by first | exact Or.inl rfl | exact Or.inr rfl) (pe_tup pa_nil))
    (pss_cons (ps_for PassesOwn.never rfl (pi_enumU (by rfl) B.enumerate (pa_cons (pe_f D_turns_of (hr.mono (by decide)) (by rfl) (pa_cons (pv 0) (pa_cons (pv 2) pa_nil))) pa_nil)) (pg_tupU (K := c.K) (n := 2) rfl (pgs_cons (pg_name (i := 5) sc_seen_and_unseen.nd rfl (by first | exact Or.inl rfl | exact Or.inr rfl)) (pgs_cons (pg_name (i := 6) sc_seen_and_unseen.nd rfl (by first | exact Or.inl rfl | exact Or.inr rfl)) pgs_nil))) (pss_cons (ps_set (i := 7) sc_seen_and_unseen.nd rfl (by first | exact Or.inl rfl | exact Or.inr rfl) (pe_f D_place_of (hr.mono (by decide)) (by rfl) (pa_cons (pv 0) (pa_cons (pv 5) pa_nil))))
    (pss_cons (ps_set (i := 4) sc_seen_and_unseen.nd rfl (by first | exact Or.inl rfl | exact Or.inr rfl) (pe_f D_with_touches (hr.mono (by decide)) (by rfl) (pa_cons (pv 0) (pa_cons (pv 4) (pa_cons (pv 6) pa_nil)))))
    (pss_one (ps_if (pt_cmpR (op_eqU (K := c.K) hu) (pe_callB (call_lenU (K := c.K)) (by rfl) B.len (by decide +kernel) (pa_cons (pv 6) pa_nil)) (pe_ixU (K := c.K) hu1 (pe_prO D_Machine_clock (hr.mono (by decide)) (pv 0)) (pv 7) (fun _ _ => rfl) (fun _ _ => rfl)) (nomark _)) (pss_cons (ps_expr (pe_bm PySem.F.plainAttrs_list PySem.F.slot_list_append PySem.F.type_list_append mt_append (pv 3) (pa_cons (pe_f D_marks_of (hr.mono (by decide)) (by rfl) (pa_cons (pe_ixU (K := c.K) hu1 (pv 1) (pv 7) (fun _ _ => rfl) (fun _ _ => rfl)) (pa_cons (pv 4) pa_nil))) pa_nil)))
    (pss_one (ps_set (i := 4) sc_seen_and_unseen.nd rfl (by first | exact Or.inl rfl | exact Or.inr rfl) (pe_f D_without_seen (hr.mono (by decide)) (by rfl) (pa_cons (pe_ixU (K := c.K) hu1 (pv 1) (pv 7) (fun _ _ => rfl) (fun _ _ => rfl)) (pa_cons (pv 4) pa_nil)))))) pss_nil)))))
    (pss_one (ps_ret (pe_tup (pa_cons (pe_callTy (call_tupU (K := c.K)) (by rfl) B.tuple (by decide +kernel) (pa_cons (pv 3) pa_nil)) (pa_cons (pv 4) pa_nil))))))))), ?_⟩
    refine ⟨_, rfl, _, rfl, o, w, m, cs, ws, rfl, hM, hB, hW, hwB, fun H1 g1 => ?_⟩
    dsimp only [tNext, tSeq, tAsg, tLst, tNil]
    refine ⟨Nat.zero_le _, fun t ft => ?_⟩
    have ft0 : H t = none := by
      cases e : H t with
      | none => rfl
      | some u => rw [g1.old t u (fun z => nomatch z) e] at ft; cases ft
    refine ⟨Nat.zero_le _, fun p0 fp0 => ?_⟩
    have ga : Go [t] H1 (upd H1 t (.lst [])) := (Go.new ft)
    have gb : Go [t] (upd H1 t (.lst [])) (upd (upd H1 t (.lst [])) p0 (.tup [])) := Go.new fp0
    have g0 := g1.mut (o := .lst []) ft0
    have gc := g0.trans (Go.new (o := .tup []) fp0)
    refine .inl ⟨_, rfl, _, rfl, o, r, m, cs, ss.map Stp.name, rfl, hM.go gc, hB, gc.sqT hs, hR, fun H2 tl n ftl g2 hT hn1 hn2 => ?_⟩
    obtain ⟨ts, hl1, hl2, hl3⟩ := hT.ex
    refine ⟨tl, ts.map V.ref, rfl, SqL.of hl1, ?_⟩
    have lt2 : H2 t = some (.lst []) := g2.old t _ (fun z => nomatch z) (by rw [upd_ne (ne_of_none upd_same fp0)]; exact upd_same)
    have htl : tl ≠ t := fun e => by
      rw [e] at ftl
      rw [upd_ne (ne_of_none upd_same fp0), upd_same] at ftl
      cases ftl
    have hlen : (ts.map V.ref).length = n := by simp [hl2]
    refine for_it (walk_enum (xs := ts.map V.ref)) (fun i σ H' => Go [t] H2 H' ∧ Go [] H H' ∧ ∃ (as : List Addr) (pa : Addr) (z5 z6 z7 : Option V), H' t = some (.lst (as.map V.ref)) ∧ MksAt c.K H' as (seenS m ws ss i).1 ∧ SqT c.K H' pa ((seenS m ws ss i).2.map V.str) ∧
      σ = [some (.ref o), some (.ref w), some (.ref r), some (.ref t), some (.ref pa), z5, z6, z7]) ?_ ?_ ?_ ?_
    · exact ⟨Go.refl _ _, gc.trans g2, [], p0, _, _, _, lt2, ⟨rfl, fun j x bs e => by simp at e⟩, g2.sqT (SqT.of upd_same), rfl⟩
    · rintro i σ H' hi ⟨ga2, _⟩
      exact SqL.of (ga2.old tl _ (by simpa using htl) hl1)
    · rintro i x σ H3 H4 hi ⟨ga3, g3, as, pa, z5, z6, z7, k1, k2, k3, rfl⟩ ⟨T, x1, x2, rfl, fT, rfl, hx1, hx2⟩
      cases hx1
      obtain ⟨ta, hta⟩ : ∃ a, ts[i]? = some a := ⟨_, List.getElem?_eq_getElem (by simpa using hi)⟩
      have hx2' : x2 = .ref ta := by
        have hx3 : (ts.map V.ref)[i]? = some x2 := hx2
        rw [List.getElem?_map, hta] at hx3
        simpa using hx3.symm
      subst hx2'
      have hta2 := hl3 i ta hta
      rw [tS_names] at hta2
      have g34 : Go [] H3 (upd H3 T (.tup [.int ((i : Nat) : Int), .ref ta])) := Go.new fT
      have hM4 := hM.go (g3.trans g34)
      refine ⟨T, _, rfl, SqT.of upd_same, rfl, ?_⟩
      refine ⟨_, _, rfl, _, _, rfl, rfl, ?_⟩
      refine ⟨_, rfl, _, rfl, o, m, cs, i, rfl, hM4, hB, fun H5 g45 => ?_⟩
      have hM5 := hM4.go g45
      have hsz := len_tS m.clock ss i
      have hfew := hR.few
      rw [List.length_map] at hfew
      have k35 := g45.sqT (g34.sqT k3)
      have hta5 := g45.sqT (g34.sqT (ga3.sqT hta2))
      refine ⟨_, rfl, _, rfl, _, rfl, o, pa, ta, m, cs, (seenS m ws ss i).2, tS m.clock ss i, rfl, hM5, hB, k35, hta5, by omega, mem_tS hss, fun H6 pb g56 hpb => ?_⟩
      obtain ⟨ck1, ck2, ck3⟩ := clk hB i
      have hM6 := hM5.go g56
      obtain ⟨dx, fs, _, a2, _, _, _, _, _, _, _, _, _, e0, _, _, e3, e4, _⟩ := id hM6.ex
      have hta6 := g56.sqT hta5
      have lta : (((tS m.clock ss i).map Stp.name).map V.str).length = (tS m.clock ss i).length := by simp
      refine ⟨_, rfl, r_nil (r_lenT hta6 (.inl ⟨_, rfl, o, dx, fs, rfl, e0, o, dx, fs, _, rfl, e0, e3, _, rfl, ixT (i := i % m.clock.length) e4 (v := .int ((m.clock.getD (i % m.clock.length) 0 : Nat) : Int)) (by rw [intsV, List.getElem?_map, ck3]; rfl) (.inl ⟨rfl, _, rfl, ?_⟩)⟩))⟩
      rw [lta]
      have g06 := g3.trans (g34.trans (g45.trans g56))
      have k16 := (g34.trans (g45.trans g56)).old t _ (fun z => nomatch z) k1
      have k26 := k2.go (g34.trans (g45.trans g56))
      have g26 := ga3.trans (g34.trans (g45.trans g56)).wide
      by_cases hc : (tS m.clock ss i).length = m.clock.getD (i % m.clock.length) 0
      · have es : seenS m ws ss (i + 1) = ((seenS m ws ss i).1 ++ [marksS (ws.getD (i % m.clock.length) []) (withS m (seenS m ws ss i).2 (tS m.clock ss i))], (withS m (seenS m ws ss i).2 (tS m.clock ss i)).filter fun x => decide (x ∉ ws.getD (i % m.clock.length) [])) := by
          conv => lhs; unfold seenS
          rw [if_pos hc]
        refine (if_pos (by rw [hc]; simp)).mpr ?_
        simp only [watchB, Bool.and_eq_true, decide_eq_true_eq, List.all_eq_true] at hwB
        obtain ⟨wl, wb⟩ := hwB
        obtain ⟨was, w1, w2, w3⟩ := (hW.go g06).ex
        obtain ⟨wa, hwa⟩ : ∃ a, was[i % m.clock.length]? = some a := ⟨_, List.getElem?_eq_getElem (by omega)⟩
        have hwf : ws[i % m.clock.length]? = some (ws.getD (i % m.clock.length) []) := by
          rw [List.getD_eq_getElem?_getD, List.getElem?_eq_getElem (by omega)]
          rfl
        have w4 := w3 _ _ _ hwa hwf
        have wfew : (ws.getD (i % m.clock.length) []).length ≤ 1000 := by
          have := wb _ (List.mem_of_getElem? hwf)
          simp only [watB, Bool.and_eq_true, decide_eq_true_eq] at this
          exact this.2.1
        have hwr : (was.map V.ref)[i % m.clock.length]? = some (.ref wa) := by rw [List.getElem?_map, hwa]; rfl
        have pfew : (withS m (seenS m ws ss i).2 (tS m.clock ss i)).length ≤ 1000 := by
          refine Nat.le_trans (List.length_filter_le _ _) ?_
          simp only [macB, pagesB, Bool.and_eq_true, decide_eq_true_eq] at hB
          have := hB.2.2.1.2.2.1
          omega
        refine ⟨_, rfl, .inl ⟨rfl, _, SqL.of k16⟩, .inl ⟨_, rfl, _, rfl, ixT w1 hwr ⟨_, rfl, wa, pb, _, _, rfl, w4, hpb, wfew, fun H7 tm g67 hm => r_nil ?_⟩⟩⟩
        have k17 := g67.old t _ (fun z => nomatch z) k16
        have hal : as.length ≤ 1000 := by
          have h1 := seenS_few m ws ss i
          have h2 := k2.1
          have h3 := stF_ge hB (n - 1)
          have h4 : ss.length ≤ 1000 := hfew
          rw [List.length_map] at hn2 hi
          omega
        refine ⟨t, as.map V.ref, .ref tm, rfl, rfl, k17, by rw [List.length_map, sizeLine_eq]; omega, ?_⟩
        have gp : Go [t] H7 (upd H7 t (.lst (as.map V.ref ++ [.ref tm]))) := Go.put k17 rfl (List.Mem.head _)
        have g08 : Go [] H (upd H7 t (.lst (as.map V.ref ++ [.ref tm]))) := (g06.trans g67).mut ft0
        have g68 : Go [t] H6 (upd H7 t (.lst (as.map V.ref ++ [.ref tm]))) := g67.wide.trans gp
        have gp' := gp
        refine .inl ⟨_, rfl, _, rfl, ixT ((g67.wide.trans gp).sqT w1) hwr ⟨_, rfl, wa, pb, _, _, rfl, (g67.wide.trans gp).sqT w4, g68.sqT hpb, pfew, fun H9 pc g89 hpc => ?_⟩⟩
        refine ⟨(g26.trans g68).trans g89.wide, g08.trans g89, as ++ [tm], pc, _, _, _, ?_, ?_, ?_, rfl⟩
        · rw [List.map_append]
          exact g89.old t _ (fun z => nomatch z) upd_same
        · rw [es]
          exact ((k26.go g68).snoc (gp.sqT hm)).go g89
        · rw [es]
          exact hpc
      · have es : seenS m ws ss (i + 1) = ((seenS m ws ss i).1, withS m (seenS m ws ss i).2 (tS m.clock ss i)) := by
          conv => lhs; unfold seenS
          rw [if_neg hc]
        refine (if_neg ?_).mpr ?_
        · intro z
          exact hc (Int.ofNat.inj (V.int.inj (of_decide_eq_true z)))
        · refine ⟨g26, g06, as, pb, _, _, _, k16, ?_, ?_, rfl⟩
          · rw [es]; exact k26
          · rw [es]; exact hpb
    · rintro σ H' ⟨_, g3, as, pa, z5, z6, z7, k1, k2, k3, rfl⟩
      refine ⟨_, rfl, r_nil ⟨t, _, rfl, .inl ⟨SqL.of k1, fun a fa => ⟨_, rfl, r_nil ⟨?_, fun t2 ft2 => ?_⟩⟩⟩⟩⟩
      · show 2 ≤ sizeLine
        decide
      · rw [hlen] at k2 k3
        have gA : Go [] H' (upd H' a (.tup (as.map V.ref))) := Go.new fa
        have gB : Go [] (upd H' a (.tup (as.map V.ref))) (upd (upd H' a (.tup (as.map V.ref))) t2 (.tup [.ref a, .ref pa])) := Go.new ft2
        refine q _ t2 a pa as n (g3.trans (gA.trans gB)) (SqT.of upd_same) (gB.sqT (SqT.of upd_same)) (k2.go (gA.trans gB)) ((gA.trans gB).sqT k3) ⟨by simpa using hn1, by simpa using hn2⟩
end
end Sd

namespace Sd
open PySem PySem.Spec PyProof.Rows L2 RZ RT
def spSeen (c : Wd) (C : Addr) (fst : Bool) : Sp := fun vs H Q _ => ∃ (o w r : Addr) (m : Mac) (cs : List (List Nat)) (ws : List (List Str)) (ss : List Stp), vs = [.ref o, .ref w, .ref r] ∧ MacAt c.K C H o m cs ∧ macB m = true ∧ WatAt c.K H w ws ∧ watchB m ws = true ∧
  SqT c.K H r ((ss.map Stp.name).map V.str) ∧ runOf m ss ∧
  ∀ H' a b as n, Go [] H H' → SqT c.K H' a (as.map V.ref) → MksAt c.K H' as (seenS m ws ss n).1 → SqT c.K H' b ((seenS m ws ss n).2.map V.str) → turnsIn m ss n → Q (.ref (if fst then a else b)) H'
/-- the sets of a machine -/
def setsS (m : Mac) (cs : List (List Nat)) : List (List Str) := cs.map fun ix => ix.map fun i => m.pages.getD i Str.empty
def spIsRow (c : Wd) (C : Addr) : Sp := fun vs H Q _ => ∃ (o v : Addr) (m : Mac) (cs : List (List Nat)) (rs : List (List Str)), vs = [.ref o, .int (rs.length : Nat), .ref v] ∧ MacAt c.K C H o m cs ∧ macB m = true ∧ macCs m cs ∧ WatAt c.K H v rs ∧ rs.length ≤ 1000 ∧ rs[0]? = some m.first ∧
  (∀ r ∈ rs, r ∈ setsS m cs) ∧ ∀ H', Go [] H H' → Q (.bl true) H'
theorem name_ok {s : Str} (h : isNameS s = true) : PyData.strOk s = true := by
  have low : ∀ c ∈ lettersZ.cps.toList, c < 0x110000 := by decide
  simp only [isNameS, Bool.and_eq_true, List.all_eq_true, decide_eq_true_eq] at h
  unfold PyData.strOk
  rw [← Array.all_toList]
  exact List.all_eq_true.mpr fun c hc => decide_eq_true (low c (h.2 c hc))
def okS (ss : List Str) : Bool := ss.all PyData.strOk
theorem lay_names {ss : List Str} (h : okS ss = true) : (namesD ss).canLay0 = true := by
  show PyData.canLayAll0 (ss.map PyData.str) = true
  rw [PyProof.Rows.canLayAll_strs']
  exact h
theorem dep_names (ss : List Str) : (namesD ss).depth = 1 := by
  show PyData.depthAll (ss.map PyData.str) + 1 = 1
  rw [PyProof.Rows.depthAll_strs']
theorem sh_names {ss : List Str} (h : okS ss = true) : SeqAt.shaped (namesD ss) = true := by
  unfold SeqAt.shaped
  rw [lay_names h, dep_names]
  decide
theorem sh_rows : ∀ {rs : List (List Str)}, (∀ r ∈ rs, okS r = true) → SeqAt.shaped (.tuple (rs.map namesD)) = true := by
  intro rs h
  have a : ∀ {rs : List (List Str)}, (∀ r ∈ rs, okS r = true) → PyData.canLayAll0 (rs.map namesD) = true ∧ PyData.depthAll (rs.map namesD) ≤ 1 := by
    intro rs
    induction rs with
    | nil => intro _; exact ⟨rfl, Nat.zero_le _⟩
    | cons r rs ih =>
      intro h
      obtain ⟨i1, i2⟩ := ih fun x hx => h x (List.mem_cons_of_mem _ hx)
      refine ⟨?_, ?_⟩
      · show ((namesD r).canLay0 && PyData.canLayAll0 (rs.map namesD)) = true
        rw [lay_names (h r List.mem_cons_self), i1]
        rfl
      · show max (namesD r).depth (PyData.depthAll (rs.map namesD)) ≤ 1
        rw [dep_names]
        omega
  obtain ⟨i1, i2⟩ := a h
  have i3 : (PyData.tuple (rs.map namesD)).canLay0 = true := i1
  have i4 : (PyData.tuple (rs.map namesD)).depth ≤ 64 := by
    show PyData.depthAll (rs.map namesD) + 1 ≤ 64
    omega
  unfold SeqAt.shaped
  rw [i3, decide_eq_true i4]
  rfl
theorem pages_ok {m : Mac} (hB : macB m = true) : okS m.pages = true := by
  simp only [macB, pagesB, namesB, Bool.and_eq_true, decide_eq_true_eq, List.all_eq_true] at hB
  exact List.all_eq_true.mpr fun p hp => name_ok (hB.2.2.1.1.1 p hp)
theorem set_ok {m : Mac} {cs : List (List Nat)} (hB : macB m = true) {r : List Str} (h : r ∈ setsS m cs) : okS r = true := by
  have hp := pages_ok hB
  simp only [setsS, List.mem_map] at h
  obtain ⟨ix, _, rfl⟩ := h
  refine List.all_eq_true.mpr fun p hp' => ?_
  simp only [List.mem_map] at hp'
  obtain ⟨i, _, rfl⟩ := hp'
  by_cases hi : i < m.pages.length
  · rw [List.getD_eq_getElem?_getD, List.getElem?_eq_getElem hi]
    exact List.all_eq_true.mp hp _ (List.getElem_mem hi)
  · rw [List.getD_eq_getElem?_getD, List.getElem?_eq_none (Nat.le_of_not_lt hi)]
    show PyData.strOk Str.empty = true
    decide +kernel
theorem sets_at {K : PySem.W.Frag} {C : Addr} {H : Hp} {o : Addr} {m : Mac} {cs : List (List Nat)} (hM : MacAt K C H o m cs) (hC : macCs m cs) :
    ∃ (dx : Addr) (fs : List (Str × V)) (a7 : Addr) (ts : List Addr), H o = some (.ins C dx fs) ∧ fs.lookup ("_sets" : Str) = some (.ref a7) ∧ SqT K H a7 (ts.map V.ref) ∧ Dp K H (.ref a7) (.tuple ((setsS m cs).map namesD)) := by
  obtain ⟨dx, fs, _, _, _, _, _, a7, _, _, ts, _, _, e0, _, _, _, _, _, _, _, _, _, _, _, e12, e13, e14, e15, _⟩ := hM.ex
  refine ⟨dx, fs, a7, ts, e0, e12, e13, .tup e13 (dpA_refs ts (setsS m cs) (by rw [e14]; simp [setsS]) fun j t r h1 h2 => ?_)⟩
  unfold setsS at h2
  rw [List.getElem?_map] at h2
  cases hj : cs[j]? with
  | none => rw [hj] at h2; cases h2
  | some ix =>
    rw [hj] at h2
    have h3 := e15 j t ix h1 hj
    have h4 : r = ix.map fun i => m.pages.getD i Str.empty := (Option.some.inj h2).symm
    have h5 : (ix.map fun i => (m.pages.map V.str).getD i .non) = r.map V.str := by
      rw [h4, List.map_map]
      refine List.map_congr_left fun i hi => ?_
      have hlt := hC.2.2 ix (List.mem_of_getElem? hj) i hi
      show (m.pages.map V.str).getD i .non = V.str (m.pages.getD i Str.empty)
      rw [List.getD_eq_getElem?_getD, List.getD_eq_getElem?_getD, List.getElem?_map, List.getElem?_eq_getElem hlt]
      rfl
    rw [h5] at h3
    exact h3
section
variable {c : Wd} {C : Addr}
abbrev s_seen : Stmt := topS 31
abbrev N_seen : List Str := ["machine", "watch", "run"]
abbrev P_seen : List Str := ["machine", "watch", "run"]
theorem sc_seen : FnScope N_seen P_seen (defScope s_seen) := ⟨rfl, rfl, rfl, by decide +kernel, rfl, by decide +kernel, by decide +kernel⟩
theorem ok_seen (F : At c "seen" "seen" s_seen P_seen) (D_seen_and_unseen : Ok c "seen_and_unseen" 6 P_seen_and_unseen (spSeenU c C)) : Ok c "seen" 7 P_seen (spSeen c C true) := by
  refine Ok.of F sc_seen (fun vs H Q E h => ?_) (fun f cdv A out s H vs Q E hr h => ?_)
  · obtain ⟨o, w, r, m, cs, ws, ss, rfl, _⟩ := h
    rfl
  · obtain ⟨o, w, r, m, cs, ws, ss, rfl, hM, hB, hW, hwB, hs, hR, q⟩ := h
    have hu1 := hu_of hr
    refine ⟨_, (pss_one (ps_ret (pe_ixU (K := c.K) hu1 (pe_f D_seen_and_unseen (hr.mono (by decide)) (by rfl) (pa_cons (pv 0) (pa_cons (pv 1) (pa_cons (pv 2) pa_nil)))) pe_int (fun _ _ => rfl) (fun _ _ => rfl)))), ?_⟩
    exact .inl ⟨_, rfl, _, rfl, _, rfl, o, w, r, m, cs, ws, ss, rfl, hM, hB, hW, hwB, hs, hR, fun H1 t a b as n g1 ht ha hk hb hn => ixT (i := 0) ht rfl (q H1 a b as n g1 ha hk hb hn)⟩
abbrev s_unseen : Stmt := topS 32
abbrev N_unseen : List Str := ["machine", "watch", "run"]
abbrev P_unseen : List Str := ["machine", "watch", "run"]
theorem sc_unseen : FnScope N_unseen P_unseen (defScope s_unseen) := ⟨rfl, rfl, rfl, by decide +kernel, rfl, by decide +kernel, by decide +kernel⟩
theorem ok_unseen (F : At c "unseen" "unseen" s_unseen P_unseen) (D_seen_and_unseen : Ok c "seen_and_unseen" 6 P_seen_and_unseen (spSeenU c C)) : Ok c "unseen" 7 P_unseen (spSeen c C false) := by
  refine Ok.of F sc_unseen (fun vs H Q E h => ?_) (fun f cdv A out s H vs Q E hr h => ?_)
  · obtain ⟨o, w, r, m, cs, ws, ss, rfl, _⟩ := h
    rfl
  · obtain ⟨o, w, r, m, cs, ws, ss, rfl, hM, hB, hW, hwB, hs, hR, q⟩ := h
    have hu1 := hu_of hr
    refine ⟨_, (pss_one (ps_ret (pe_ixU (K := c.K) hu1 (pe_f D_seen_and_unseen (hr.mono (by decide)) (by rfl) (pa_cons (pv 0) (pa_cons (pv 1) (pa_cons (pv 2) pa_nil)))) pe_int (fun _ _ => rfl) (fun _ _ => rfl)))), ?_⟩
    exact .inl ⟨_, rfl, _, rfl, _, rfl, o, w, r, m, cs, ws, ss, rfl, hM, hB, hW, hwB, hs, hR, fun H1 t a b as n g1 ht ha hk hb hn => ixT (i := 1) ht rfl (q H1 a b as n g1 ha hk hb hn)⟩
end
end Sd

namespace Sd
open PySem PySem.Spec PyProof.Rows L2 RZ RT
/-- what turns cost beside these sets -/
def slowL (m : Mac) (ss : List Stp) (rs : List (List Str)) (k : Nat) : List Int := (List.range k).map fun i => ((slowS (tS m.clock ss i) (rs.getD i []) : Nat) : Int)
def moveL (m : Mac) (rs : List (List Str)) (k : Nat) : List Int := (List.range k).map fun i => (m.move : Int) * ((comeS (rs.getD i []) (rs.getD (i + 1) [])).length : Nat)
def totalS (m : Mac) (ss : List Stp) (rs : List (List Str)) (n : Nat) : Int := (slowL m ss rs (min n rs.length)).sum + (moveL m rs (rs.length - 1)).sum
def rowB (rs : List (List Str)) : Bool := decide (rs.length ≤ 1000) && rs.all fun r => decide (r.length ≤ 1000)
def spTotal (c : Wd) (C : Addr) : Sp := fun vs H Q _ => ∃ (o t v : Addr) (m : Mac) (cs : List (List Nat)) (ss : List Stp) (rs : List (List Str)) (n : Nat), vs = [.ref o, .ref t, .ref v] ∧ MacAt c.K C H o m cs ∧ macB m = true ∧ TurnsAt c.K H t m.clock (ss.map Stp.name) n ∧
  n ≤ 1000 ∧ ss.length ≤ 1000 ∧ (∀ s ∈ ss, ∃ i : Nat, m.steps[i]? = some s) ∧ WatAt c.K H v rs ∧ rowB rs = true ∧ ∀ H', Go [] H H' → Q (.int (totalS m ss rs n)) H'
theorem ref_at {xs : List Addr} {i : Nat} {a : Addr} {x : V} (h : xs[i]? = some a) (e : (xs.map V.ref)[i]? = some x) : x = .ref a := by
  rw [List.getElem?_map, h] at e
  exact (Option.some.inj e).symm
section
variable {c : Wd} {C : Addr}
end
end Sd

namespace Sd
open PySem PySem.Spec PyProof.Rows L2 RZ RT
theorem stF_mono (ck : List Nat) {i j : Nat} (h : i ≤ j) : stF ck i ≤ stF ck j := by
  induction j with
  | zero =>
    have : i = 0 := by omega
    subst this
    exact Nat.le_refl _
  | succ j ih =>
    by_cases e : i = j + 1
    · subst e
      exact Nat.le_refl _
    · exact Nat.le_trans (ih (by omega)) (Nat.le_add_right _ _)
theorem turns_one {m : Mac} {ss : List Stp} {i j : Nat} (hi : turnsIn m ss i) (hj : turnsIn m ss j) : i = j := by
  obtain ⟨a1, a2⟩ := hi
  obtain ⟨b1, b2⟩ := hj
  rcases Nat.lt_trichotomy i j with h | h | h
  · rcases b2 with z | z
    · omega
    · have := stF_mono m.clock (show i ≤ j - 1 by omega)
      omega
  · exact h
  · rcases a2 with z | z
    · omega
    · have := stF_mono m.clock (show j ≤ i - 1 by omega)
      omega
theorem turns_few {m : Mac} (hB : macB m = true) {ss : List Stp} {n : Nat} (h : turnsIn m ss n) : n ≤ ss.length := by
  rcases h.2 with z | z
  · omega
  · have := stF_ge hB (n - 1)
    omega
def spPrice (c : Wd) (C : Addr) : Sp := fun vs H Q _ => ∃ (o r v : Addr) (m : Mac) (cs : List (List Nat)) (ss : List Stp) (rs : List (List Str)), vs = [.ref o, .ref r, .ref v] ∧ MacAt c.K C H o m cs ∧ macB m = true ∧ macCs m cs ∧ SqT c.K H r ((ss.map Stp.name).map V.str) ∧ runOf m ss ∧
  WatAt c.K H v rs ∧ rowB rs = true ∧ rs[0]? = some m.first ∧ (∀ r ∈ rs, r ∈ setsS m cs) ∧ turnsIn m ss rs.length ∧ ∀ H', Go [] H H' → Q (.int (totalS m ss rs rs.length)) H'
section
variable {c : Wd} {C : Addr}
end
end Sd

namespace Sd
open PySem PySem.Spec PyProof.Rows L2
theorem Pot.up {H : Hp} {p : Addr} {n m : Nat} (h : Pot H p n) (l : n ≤ m) : Pot H p m := by
  obtain ⟨a, b, k, h1, h2, h3, h4⟩ := h
  exact ⟨a, b, k, h1, h2, h3, by omega⟩
theorem Pot.go {H H' : Hp} {p : Addr} {n : Nat} (h : Pot H p n) (g : Go [] H H') : Pot H' p n := by
  obtain ⟨a, b, k, h1, h2⟩ := h
  exact ⟨a, b, k, g.old p _ (by simp) h1, h2⟩
/-- a new pot, for a small number -/
def spPotOf (c : Wd) : Sp := fun vs H Q _ => ∃ (a : Addr) (ns : List Int) (k : Nat), vs = [.ref a, .int (k : Int)] ∧ SqL c.K H a (ns.map V.int) ∧ ns.length ≤ 63 ∧ (∀ z ∈ ns, Builtin.Int.intBits z ≤ 1048576) ∧ k ≤ 3 ∧
  ∀ (p : Addr) (H' : Hp), H p = none → Go [] H H' → Pot H' p 0 → Q (.ref p) H'
section
variable {c : Wd}
abbrev s__law_pot_of : Stmt := topS 50
abbrev N__law_pot_of : List Str := ["_law_script", "_law_k", "_law_cell", "_law_own"]
abbrev P__law_pot_of : List Str := ["_law_script", "_law_k"]
theorem sc__law_pot_of : FnScope N__law_pot_of P__law_pot_of (defScope s__law_pot_of) := ⟨rfl, rfl, rfl, by decide +kernel, rfl, by decide +kernel, by decide +kernel⟩
theorem ok_pot_of (F : At c "_law_pot_of" "_law_pot_of" s__law_pot_of P__law_pot_of) (B : Bi c) : Ok c "_law_pot_of" 1 P__law_pot_of (spPotOf c) := by
  refine Ok.of F sc__law_pot_of (fun vs H Q E h => ?_) (fun f cdv A out s H vs Q E hr h => ?_)
  · obtain ⟨a, ns, k, rfl, _⟩ := h
    rfl
  · obtain ⟨a, ns, k, rfl, hS, hl, hbits, hk, q⟩ := h
    have hu1 := hu_of hr
    have hu := hr.units
    refine ⟨_, (pss_cons (ps_set (i := 2) sc__law_pot_of.nd rfl (by first | exact Or.inl rfl | exact Or.inr rfl) (pe_ifExp (pt_cmpR op_ltU (pv 1) (pe_callB (call_lenU (K := c.K)) (by rfl) B.len (by decide +kernel) (pa_cons (pv 0) pa_nil)) (nomark _)) (pe_ixU (K := c.K) hu1 (pv 0) (pv 1) (fun _ _ => rfl) (fun _ _ => rfl)) (pe_op (op_addU (K := c.K)) (pe_op op_mulU pe_int (pv 1)) pe_int)))
    (pss_cons (ps_set (i := 3) sc__law_pot_of.nd rfl (by first | exact Or.inl rfl | exact Or.inr rfl) (pe_op op_mulU (pe_op op_modU (pe_callTy call_intU (by rfl) B.int (by decide +kernel) (pa_cons (pe_callB call_absU (by rfl) B.abs (by decide +kernel) (pa_cons (pv 2) pa_nil)) pa_nil)) (pe_op op_powU (pe_op op_powU pe_int pe_int) pe_int)) (pe_callTy call_intU (by rfl) B.int (by decide +kernel) (pa_cons (pe_cmpR op_ge (pe_callB call_absU (by rfl) B.abs (by decide +kernel) (pa_cons (pv 2) pa_nil)) (pe_op op_powU pe_int pe_int) (nomark _)) pa_nil))))
    (pss_one (ps_ret (pe_lst (pa_cons (pv 3) (pa_cons (pe_op op_modU (pe_op (op_addU (K := c.K)) (pe_op (op_addU (K := c.K)) (pe_op op_mulU (pe_op op_modU (pe_callTy call_intU (by rfl) B.int (by decide +kernel) (pa_cons (pv 2) pa_nil)) pe_int) pe_int) (pe_op op_mulU (pe_op op_mulU pe_int (pv 1)) (pv 1))) pe_int) pe_int) (pa_cons pe_int pa_nil)))))))), ?_⟩
    have hK : ((k : Nat) : Int).natAbs < 2 ^ 31 := by omega
    refine ⟨_, rfl, _, rfl, r_nil (r_lenL hS (r_ltI ⟨_, rfl, ?_⟩))⟩
    have hp1 : (((10 : Int) ^ (60 : Int).toNat) ^ (5 : Int).toNat) ≤ 2 ^ 1000 := by decide +kernel
    have hp0 : 0 < (((10 : Int) ^ (60 : Int).toNat) ^ (5 : Int).toNat) := by decide +kernel
    have c1 : CPowW 10 60 := ⟨by decide, by decide +kernel⟩
    have c2 : CPowW ((10 : Int) ^ (60 : Int).toNat) 5 := ⟨by decide, by decide +kernel⟩
    have c3 : CPowW 10 18 := ⟨by decide, by decide +kernel⟩
    refine ite2 (fun h1 => ?_) (fun h1 => ?_)
    · have hk2 : k < ns.length := by
        simpa using h1
      have hz : (ns.map V.int)[k]? = some (.int ns[k]) := by
        rw [List.getElem?_map, List.getElem?_eq_getElem hk2]
        rfl
      refine .inl ⟨_, rfl, _, rfl, .inl ⟨a, _, _, _, rfl, rfl, hS, atI_nat hz, ?_⟩⟩
      generalize ns[k] = z
      refine ⟨_, rfl, z, rfl, ?_⟩
      generalize (if z < 0 then -z else z) = z1
      refine r_nil (.inl ⟨z1, rfl, ?_⟩)
      dsimp only [tOp, tC]
      refine r_pow c1 fun m1 e1 => ?_
      subst e1
      refine r_pow c2 fun m2 e2 => ?_
      subst e2
      refine r_mod hp0 fun m m0 ml _ => ?_
      refine ⟨_, rfl, z, rfl, ?_⟩
      generalize (if z < 0 then -z else z) = z2
      dsimp only [tOp, tC]
      refine r_pow c3 fun m3 e3 => ⟨z2, m3, rfl, rfl, r_nil (.inr ⟨_, rfl, ?_⟩)⟩
      generalize decide (m3 ≤ z2) = bb
      have hm : m.natAbs < 2 ^ 1000 := by
        have : m < 2 ^ 1000 := Int.lt_of_lt_of_le ml hp1
        have h2 : (m.natAbs : Int) < ((2 ^ 1000 : Nat) : Int) := by
          rw [Int.natAbs_of_nonneg m0]
          exact_mod_cast this
        exact_mod_cast h2
      have hb : (if bb = true then (1 : Int) else 0).natAbs < 2 ^ 1 := by cases bb <;> decide
      refine r_mulI (wide_mul (a := 1000) (b := 1) hm hb (by decide) (by decide) (by decide)) ?_
      generalize m * (if bb = true then (1 : Int) else 0) = own
      refine ⟨_, rfl, _, rfl, .inl ⟨z, rfl, r_mod (by decide) fun n1 n1a n1b _ => ?_⟩⟩
      have hn1 : n1.natAbs < 2 ^ 62 := by omega
      refine r_mulI (wide_mul (j := 70913) (a := 62) (b := 20) hn1 (by decide) (by decide) (by decide) (by decide)) ?_
      refine ⟨_, rfl, r_mulI (wide_mul (i := 7013) (a := 16) (b := 31) (by decide) hK (by decide) (by decide) (by decide)) ?_⟩
      refine ⟨_, rfl, r_mulI (wide_mul (a := 47) (b := 31) (wide_lt (a := 16) (b := 31) (by decide) hK) hK (by decide) (by decide) (by decide)) ?_⟩
      refine r_addI (r_addI (r_mod (by decide) fun n2 n2a n2b _ => ?_))
      refine r_c (r_nil ⟨by show 3 ≤ sizeLine; decide, fun p hp => ?_⟩)
      exact q p _ hp (Go.new hp) ⟨own, n2, 0, upd_same, n2a, n2b, by omega⟩
    · refine ⟨_, rfl, r_mulI (wide_mul (i := 37) (a := 16) (b := 31) (by decide) hK (by decide) (by decide) (by decide)) (r_addI ?_)⟩
      generalize 37 * ((k : Nat) : Int) + 11 = z
      refine ⟨_, rfl, z, rfl, ?_⟩
      generalize (if z < 0 then -z else z) = z1
      refine r_nil (.inl ⟨z1, rfl, ?_⟩)
      dsimp only [tOp, tC]
      refine r_pow c1 fun m1 e1 => ?_
      subst e1
      refine r_pow c2 fun m2 e2 => ?_
      subst e2
      refine r_mod hp0 fun m m0 ml _ => ?_
      refine ⟨_, rfl, z, rfl, ?_⟩
      generalize (if z < 0 then -z else z) = z2
      dsimp only [tOp, tC]
      refine r_pow c3 fun m3 e3 => ⟨z2, m3, rfl, rfl, r_nil (.inr ⟨_, rfl, ?_⟩)⟩
      generalize decide (m3 ≤ z2) = bb
      have hm : m.natAbs < 2 ^ 1000 := by
        have : m < 2 ^ 1000 := Int.lt_of_lt_of_le ml hp1
        have h2 : (m.natAbs : Int) < ((2 ^ 1000 : Nat) : Int) := by
          rw [Int.natAbs_of_nonneg m0]
          exact_mod_cast this
        exact_mod_cast h2
      have hb : (if bb = true then (1 : Int) else 0).natAbs < 2 ^ 1 := by cases bb <;> decide
      refine r_mulI (wide_mul (a := 1000) (b := 1) hm hb (by decide) (by decide) (by decide)) ?_
      generalize m * (if bb = true then (1 : Int) else 0) = own
      refine ⟨_, rfl, _, rfl, .inl ⟨z, rfl, r_mod (by decide) fun n1 n1a n1b _ => ?_⟩⟩
      have hn1 : n1.natAbs < 2 ^ 62 := by omega
      refine r_mulI (wide_mul (j := 70913) (a := 62) (b := 20) hn1 (by decide) (by decide) (by decide) (by decide)) ?_
      refine ⟨_, rfl, r_mulI (wide_mul (i := 7013) (a := 16) (b := 31) (by decide) hK (by decide) (by decide) (by decide)) ?_⟩
      refine ⟨_, rfl, r_mulI (wide_mul (a := 47) (b := 31) (wide_lt (a := 16) (b := 31) (by decide) hK) hK (by decide) (by decide) (by decide)) ?_⟩
      refine r_addI (r_addI (r_mod (by decide) fun n2 n2a n2b _ => ?_))
      refine r_c (r_nil ⟨by show 3 ≤ sizeLine; decide, fun p hp => ?_⟩)
      exact q p _ hp (Go.new hp) ⟨own, n2, 0, upd_same, n2a, n2b, by omega⟩
end
end Sd

/-! L05a: what is drawn: one of some; all sets of a size -/
namespace Sd
open PySem PySem.Spec PyProof.Rows L2 RZ RT
theorem r_repT {K : PySem.W.Frag} {H : Hp} {l : Addr} {xs : List V} {k : Nat} {Q : VK} (h : SqT K H l xs) (ne : xs ≠ []) (hl : xs.length ≤ 1000) (hk : k ≤ 1000)
    (q : ∀ a H', Go [] H H' → SqT K H' a (List.replicate k xs).flatten → Q (.ref a) H') : rMulQ K (.ref l) (.int (k : Int)) H Q := by
  rcases (by omega : k = 0 ∨ k = 1 ∨ 2 ≤ k) with z | z | z
  · subst z
    exact .inr (.inr ⟨l, 0, xs, rfl, rfl, h, ne, .inr ⟨rfl, fun p hp => q p _ (Go.new hp) (SqT.of upd_same)⟩⟩)
  · subst z
    exact .inr (.inr ⟨l, 1, xs, rfl, rfl, h, ne, .inl ⟨rfl, q l H (Go.refl _ _) (by simpa using h)⟩⟩)
  · refine .inr (.inl ⟨l, _, xs, rfl, rfl, h, ne, by omega, by omega, hl, fun p hp => q p _ (Go.new hp) (SqT.of ?_)⟩)
    rw [Int.toNat_natCast]
    exact upd_same
theorem r_catT {K : PySem.W.Frag} {H : Hp} {a b : Addr} {xs ys : List V} {Q : VK} (h1 : SqT K H a xs) (h2 : SqT K H b ys) (hz : xs.length + ys.length ≤ sizeLine)
    (q : ∀ t H', Go [] H H' → SqT K H' t (xs ++ ys) → Q (.ref t) H') : rAddU K (.ref a) (.ref b) H Q := by
  refine .inr (.inr ⟨a, b, xs, ys, rfl, rfl, h1, h2, hz, fun e => ?_, fun _ e => ?_, fun _ _ p hp => q p _ (Go.new hp) (SqT.of upd_same)⟩)
  · subst e
    exact q b H (Go.refl _ _) h2
  · subst e
    exact q a H (Go.refl _ _) (by rw [List.append_nil]; exact h1)
theorem keep_go {M : List Addr} {x C dx : Addr} {H H' : Hp} (fx : H x = none) (fdx : H dx = none) (k : Keep x (upd (upd H dx (.own x)) x (.ins C dx [])) H') : Go M H H' := by
  have a : ∀ b o, H b = some o → H' b = some o := fun b o e => k b o (ne_of_none e fx) (by rw [upd_ne (ne_of_none e fx), upd_ne (ne_of_none e fdx)]; exact e)
  exact ⟨fun b o _ e => a b o e, fun b o _ e => a b o e⟩
theorem refs_of {P : Nat → Addr → Prop} : ∀ {ys : List V}, (∀ (i : Nat) (y : V), ys[i]? = some y → ∃ a, y = .ref a ∧ P i a) → ∃ as : List Addr, ys = as.map V.ref ∧ ∀ (i : Nat) (a : Addr), as[i]? = some a → P i a := by
  intro ys
  induction ys generalizing P with
  | nil => exact fun _ => ⟨[], rfl, fun i a e => by simp at e⟩
  | cons y ys ih =>
    intro h
    obtain ⟨a, rfl, ha⟩ := h 0 y rfl
    obtain ⟨as, rfl, has⟩ := ih (P := fun i a => P (i + 1) a) fun i y e => h (i + 1) y (by simpa using e)
    refine ⟨a :: as, rfl, fun i b e => ?_⟩
    cases i with
    | zero =>
      have : a = b := by simpa using e
      exact this ▸ ha
    | succ i => exact has i b (by simpa using e)
/-- some[take(pot, len(some))] -/
def spDrawn (c : Wd) : Sp := fun vs H Q _ => ∃ (p l : Addr) (n : Nat) (xs : List V), vs = [.ref p, .ref l] ∧ Pot H p n ∧ n ≤ 2 ^ 30 ∧ xs ≠ [] ∧ xs.length < 2 ^ 29 ∧
  ((l ≠ p ∧ H l = some (.lst xs)) ∨ SqT c.K H l xs) ∧ ∀ (r : Nat) (v : V) (H' : Hp), xs[r]? = some v → Go [p] H H' → Pot H' p (n + 1) → Q v H'
/-- tuples of texts at these addresses -/
def NmsAt (K : PySem.W.Frag) (H : Hp) (as : List Addr) (rs : List (List Str)) : Prop := as.length = rs.length ∧ ∀ (j : Nat) (x : Addr) (r : List Str), as[j]? = some x → rs[j]? = some r → SqT K H x (r.map V.str)
theorem NmsAt.go {K : PySem.W.Frag} {M : List Addr} {H H' : Hp} {as : List Addr} {rs : List (List Str)} (h : NmsAt K H as rs) (g : Go M H H') : NmsAt K H' as rs := ⟨h.1, fun j x r e1 e2 => g.sqT (h.2 j x r e1 e2)⟩
theorem NmsAt.app {K : PySem.W.Frag} {H : Hp} {as bs : List Addr} {rs qs : List (List Str)} (h : NmsAt K H as rs) (k : NmsAt K H bs qs) : NmsAt K H (as ++ bs) (rs ++ qs) := by
  refine ⟨by simp [h.1, k.1], fun j x r e1 e2 => ?_⟩
  by_cases hj : j < as.length
  · rw [List.getElem?_append_left hj] at e1
    rw [List.getElem?_append_left (by rw [← h.1]; exact hj)] at e2
    exact h.2 j x r e1 e2
  · rw [List.getElem?_append_right (by omega)] at e1
    rw [List.getElem?_append_right (by have := h.1; omega), ← h.1] at e2
    exact k.2 _ x r e1 e2
def ltT (a b : Str) : Bool := decide (a.cps.toList < b.cps.toList)
/-- one may go on with this page -/
def mayS (one : List Str) (p : Str) : Bool := match one.getLast? with | none => true | some l => ltT l p
def growS (ps one : List Str) : List (List Str) := (ps.filter (mayS one)).map fun p => one ++ [p]
def setsL (ps : List Str) : Nat → List (List Str)
  | 0 => [[]]
  | n + 1 => (setsL ps n).flatMap (growS ps)
theorem growS_few (ps one : List Str) : (growS ps one).length ≤ ps.length := by
  unfold growS
  rw [List.length_map]
  exact List.length_filter_le _ _
theorem flat_few {f : List Str → List (List Str)} {k : Nat} (hf : ∀ x, (f x).length ≤ k) : ∀ xs : List (List Str), (xs.flatMap f).length ≤ xs.length * k
  | [] => by simp
  | x :: xs => by
    rw [List.flatMap_cons, List.length_append, List.length_cons, Nat.succ_mul]
    have := hf x
    have := flat_few hf xs
    omega
theorem setsL_few {ps : List Str} (h : ps.length ≤ 4) : ∀ n, (setsL ps n).length ≤ 4 ^ n
  | 0 => by simp [setsL]
  | n + 1 => by
    have h1 := flat_few (f := growS ps) (k := 4) (fun x => Nat.le_trans (growS_few ps x) h) (setsL ps n)
    have h2 := setsL_few h n
    show ((setsL ps n).flatMap (growS ps)).length ≤ 4 ^ (n + 1)
    rw [Nat.pow_succ]
    omega
theorem setsL_mem {ps : List Str} : ∀ (n : Nat) (r : List Str), r ∈ setsL ps n → r.length = n ∧ ∀ p ∈ r, p ∈ ps
  | 0, r, h => by
    have : r = [] := by simpa [setsL] using h
    subst this
    exact ⟨rfl, fun p hp => nomatch hp⟩
  | n + 1, r, h => by
    obtain ⟨one, h1, h2⟩ := List.mem_flatMap.mp h
    obtain ⟨i1, i2⟩ := setsL_mem n one h1
    simp only [growS, List.mem_map, List.mem_filter] at h2
    obtain ⟨p, ⟨hp, _⟩, rfl⟩ := h2
    refine ⟨by simp [i1], fun q hq => ?_⟩
    rcases List.mem_append.mp hq with z | z
    · exact i2 q z
    · rw [List.mem_singleton.mp z]
      exact hp
theorem okS_sub {ps r : List Str} (h : okS ps = true) (hr : ∀ p ∈ r, p ∈ ps) : okS r = true := List.all_eq_true.mpr fun p hp => List.all_eq_true.mp h p (hr p hp)
theorem atI_last {α : Type} {xs : List α} {v : α} (h : xs.getLast? = some v) : atI xs (-1) = some v := by
  have hne : xs ≠ [] := fun e => by rw [e] at h; cases h
  have hl : 1 ≤ xs.length := List.length_pos_iff.mpr hne
  unfold atI ixN
  rw [if_neg (by decide), if_pos (by omega)]
  show xs[((-1 : Int) + (xs.length : Int)).toNat]? = some v
  rw [show ((-1 : Int) + (xs.length : Int)).toNat = xs.length - 1 by omega, ← List.getLast?_eq_getElem?]
  exact h
theorem ixT_last {K : PySem.W.Frag} {H : Hp} {Q : VK} {p : Addr} {xs : List V} {v : V} (h : SqT K H p xs) (hl : xs.getLast? = some v) (q : Q v H) : rIx K (.ref p) (.int (-1)) H Q :=
  .inr (.inl ⟨p, xs, -1, v, rfl, rfl, h, atI_last hl, q⟩)
theorem eqv_nil (r : List Str) : PyData.eqv (namesD r) (.tuple []) = r.isEmpty := by
  cases r with
  | nil => rfl
  | cons a b => rfl
def spSetsOf (c : Wd) : Sp := fun vs H Q _ => ∃ (a : Addr) (ps : List Str) (n : Nat), vs = [.ref a, .int (n : Int)] ∧ SqT c.K H a (ps.map V.str) ∧ ps.length ≤ 4 ∧ okS ps = true ∧ n ≤ 4 ∧
  ∀ H' l as, H l = none → Go [] H H' → H' l = some (.lst (as.map V.ref)) → NmsAt c.K H' as (setsL ps n) → Q (.ref l) H'
section
variable {c : Wd}
abbrev s__law_of : Stmt := topS 52
abbrev N__law_of : List Str := ["_law_pot", "_law_some"]
abbrev P__law_of : List Str := ["_law_pot", "_law_some"]
theorem sc__law_of : FnScope N__law_of P__law_of (defScope s__law_of) := ⟨rfl, rfl, rfl, by decide +kernel, rfl, by decide +kernel, by decide +kernel⟩
theorem ok_of (F : At c "_law_of" "_law_of" s__law_of P__law_of) (B : Bi c) (D__law_take : Ok c "_law_take" 1 P__law_take spTake) : Ok c "_law_of" 2 P__law_of (spDrawn c) := by
  refine Ok.of F sc__law_of (fun vs H Q E h => ?_) (fun f cdv A out s H vs Q E hr h => ?_)
  · obtain ⟨p, l, n, xs, rfl, _⟩ := h
    rfl
  · obtain ⟨p, l, n, xs, rfl, hp, hn, h0, hz, hl, q⟩ := h
    have hu1 := hu_of hr
    refine ⟨_, (pss_one (ps_ret (pe_ixU (K := c.K) hu1 (pv 1) (pe_f D__law_take (hr.mono (by decide)) (by rfl) (pa_cons (pv 0) (pa_cons (pe_callB (call_lenU (K := c.K)) (by rfl) B.len (by decide +kernel) (pa_cons (pv 1) pa_nil)) pa_nil))) (fun _ _ => rfl) (fun _ _ => rfl)))), ?_⟩
    have hpos : 0 < xs.length := by cases xs with | nil => exact absurd rfl h0 | cons => simp
    have fin : ∀ (r : Nat) (H' : Hp), r < xs.length → Go [p] H H' → Pot H' p (n + 1) → rIx c.K (.ref l) (.int (r : Int)) H' Q := by
      intro r H' hr g hp'
      have hx : xs[r]? = some xs[r] := List.getElem?_eq_getElem hr
      rcases hl with ⟨hne, hl⟩ | hl
      · exact ixL (g.old l _ (by simpa using hne) hl) hx (q r _ _ hx g hp')
      · exact ixT (g.sqT hl) hx (q r _ _ hx g hp')
    rcases hl with ⟨hne, hl⟩ | hl
    · exact .inl ⟨_, rfl, _, rfl, _, rfl, r_nil (r_lenL (SqL.of hl) ⟨p, n, xs.length, rfl, hp, hn, hpos, hz, fin⟩)⟩
    · exact .inl ⟨_, rfl, _, rfl, _, rfl, r_nil (r_lenT hl ⟨p, n, xs.length, rfl, hp, hn, hpos, hz, fin⟩)⟩
abbrev s__law_sets_of : Stmt := topS 55
abbrev N__law_sets_of : List Str := ["_law_pages", "_law_size", "_law_found", "_law_turn", "_law_longer", "_law_one", "_law_page"]
abbrev P__law_sets_of : List Str := ["_law_pages", "_law_size"]
theorem sc__law_sets_of : FnScope N__law_sets_of P__law_sets_of (defScope s__law_sets_of) := ⟨rfl, rfl, rfl, by decide +kernel, rfl, by decide +kernel, by decide +kernel⟩
theorem ok_sets_of (F : At c "_law_sets_of" "_law_sets_of" s__law_sets_of P__law_sets_of) (B : Bi c) : Ok c "_law_sets_of" 1 P__law_sets_of (spSetsOf c) := by
  refine Ok.of F sc__law_sets_of (fun vs H Q E h => ?_) (fun f cdv A out s H vs Q E hr h => ?_)
  · obtain ⟨a, ps, n, rfl, _⟩ := h
    rfl
  · obtain ⟨a, ps, n, rfl, ha, hl, hok, hn, q⟩ := h
    have hu1 := hu_of hr
    have hu := hr.units
    have hu5 := hr.u5
    have hlen : (ps.map V.str).length = ps.length := by simp
    refine ⟨_, (pss_cons (ps_set (i := 2) sc__law_sets_of.nd rfl (by first | exact Or.inl rfl | exact Or.inr rfl) (pe_lst (pa_cons (pe_tup pa_nil) pa_nil)))
    (pss_cons (ps_for PassesOwn.never rfl (pi_range1 (by rfl) B.range (pa_cons (pv 1) pa_nil)) (pg_name (i := 3) sc__law_sets_of.nd rfl (by first | exact Or.inl rfl | exact Or.inr rfl)) (pss_cons (ps_set (i := 4) sc__law_sets_of.nd rfl (by first | exact Or.inl rfl | exact Or.inr rfl) (pe_lst pa_nil))
    (pss_cons (ps_for PassesOwn.never rfl (pi_seq (K := c.K) (pv 2)) (pg_name (i := 5) sc__law_sets_of.nd rfl (by first | exact Or.inl rfl | exact Or.inr rfl)) (pss_one (ps_expr (pe_bm PySem.F.plainAttrs_list PySem.F.slot_list_extend PySem.F.type_list_extend mt_extend (pv 4) (pa_cons (pe_lc (own := [("_law_page", 6)]) rfl sc__law_sets_of.nd (pi_seq (K := c.K) (pv 0)) (blkOk_by (N := N__law_sets_of) (sc := defScope s__law_sets_of) (by decide +kernel)) (fun _ _ _ _ _ => (pg_name (i := 6) sc__law_sets_of.nd rfl (by first | exact Or.inl rfl | exact Or.inr rfl))) (fun _ _ _ _ _ => pts_one (PW.pt (pw_or (pt_cmpR (op_eqU (K := c.K) hu) (pv 5) (pe_tup pa_nil) (nomark _)) (pw_or1 (pt_cmpR op_gtU (pv 6) (pe_ixU (K := c.K) hu1 (pv 5) (pe_un un_neg pe_int) (fun _ _ => rfl) (fun _ _ => rfl)) (nomark _)))))) (fun _ _ _ _ _ => (pe_op (op_addU (K := c.K)) (pv 5) (pe_tup (pa_cons (pv 6) pa_nil))))) pa_nil)))))
    (pss_one (ps_set (i := 2) sc__law_sets_of.nd rfl (by first | exact Or.inl rfl | exact Or.inr rfl) (pv 4))))))
    (pss_one (ps_ret (pv 2))))), ?_⟩
    refine ⟨Nat.zero_le _, fun e0 fe0 => r_nil ⟨by show 1 ≤ sizeLine; decide, fun l0 fl0 => ?_⟩⟩
    have fl00 : H l0 = none := by
      have : e0 ≠ l0 := fun e => by rw [e, upd_same] at fl0; cases fl0
      rw [upd_ne this.symm] at fl0
      exact fl0
    have g1 : Go [] H (upd (upd H e0 (.tup [])) l0 (.lst [.ref e0])) := (Go.new fe0).trans (Go.new fl0)
    have k1 : NmsAt c.K (upd (upd H e0 (.tup [])) l0 (.lst [.ref e0])) [e0] (setsL ps 0) := ⟨rfl, fun j x r e1 e2 => by
      cases j with
      | zero =>
        have : e0 = x := by simpa using e1
        subst this
        have : r = [] := by simpa [setsL] using e2.symm
        subst this
        exact (Go.new (M := []) fl0).sqT (SqT.of upd_same)
      | succ j => simp at e1⟩
    refine ⟨_, rfl, (n : Int), rfl, by omega, by omega, ?_⟩
    refine for_it (walk_range (lo := 0) (n := n)) (fun i σ H' => Go [] H H' ∧ ∃ (l : Addr) (as : List Addr) (z3 z4 z5 z6 : Option V), H l = none ∧ H' l = some (.lst (as.map V.ref)) ∧ NmsAt c.K H' as (setsL ps i) ∧
      σ = [some (.ref a), some (.int (n : Int)), some (.ref l), z3, z4, z5, z6]) ⟨g1, l0, [e0], _, _, _, _, fl00, upd_same, k1, rfl⟩ (fun _ _ _ _ _ => trivial) ?_ ?_
    · rintro i y σ H2 H3 hi ⟨g2, l, as, z3, z4, z5, z6, fl, k2, k3, rfl⟩ ⟨rfl, rfl⟩
      dsimp only [tNext, tSeq, tAsg, tLst, tNil]
      refine ⟨Nat.zero_le _, fun lt flt => ?_⟩
      have nl : lt ≠ l := fun e => by rw [e, k2] at flt; cases flt
      have flt0 : H lt = none := g2.free (by simp) flt
      have g3 : Go [] H3 (upd H3 lt (.lst [])) := Go.new flt
      refine .inl (.inl ⟨_, rfl, l, rfl, ⟨_, SqL.of (g3.old l _ (fun z => nomatch z) k2)⟩, ?_⟩)
      have as_le : as.length ≤ 4 ^ i := by rw [k3.1]; exact setsL_few hl i
      have pw : 4 ^ i ≤ 64 := by
        rcases (by omega : i = 0 ∨ i = 1 ∨ i = 2 ∨ i = 3) with z | z | z | z <;> subst z <;> decide
      refine for_it (walk_list (xs := as.map V.ref)) (fun j σ H' => Go [] H H' ∧ H' l = some (.lst (as.map V.ref)) ∧ NmsAt c.K H' as (setsL ps i) ∧ ∃ (bs : List Addr) (y3 y5 y6 : Option V), H' lt = some (.lst (bs.map V.ref)) ∧ NmsAt c.K H' bs (((setsL ps i).take j).flatMap (growS ps)) ∧
        σ = [some (.ref a), some (.int (n : Int)), some (.ref l), y3, some (.ref lt), y5, y6]) ?_ (fun j σ H' _ h => SqL.of h.2.1) ?_ ?_
      · exact ⟨g2.trans g3, g3.old l _ (fun z => nomatch z) k2, k3.go g3, [], _, _, _, upd_same, ⟨rfl, fun j x r e1 e2 => by simp at e1⟩, rfl⟩
      · rintro j y σ H4 H5 hj ⟨g4, k4, k5, bs, y3, y5, y6, k6, k7, rfl⟩ ⟨rfl, hy⟩
        rw [List.length_map] at hj
        obtain ⟨oa, hoa⟩ : ∃ o, as[j]? = some o := ⟨_, List.getElem?_eq_getElem hj⟩
        have ey : y = .ref oa := ref_at hoa hy
        subst ey
        obtain ⟨one, hone⟩ : ∃ r, (setsL ps i)[j]? = some r := ⟨_, List.getElem?_eq_getElem (by rw [← k5.1]; exact hj)⟩
        have hoT := k5.2 j oa one hoa hone
        obtain ⟨olen, omem⟩ := setsL_mem i one (List.mem_of_getElem? hone)
        have ook := okS_sub hok omem
        have bfew : bs.length ≤ 1000 := by
          rw [k7.1]
          have h1 := flat_few (f := growS ps) (k := 4) (fun x => Nat.le_trans (growS_few ps x) hl) ((setsL ps i).take j)
          rw [List.length_take] at h1
          have h2 := k3.1
          omega
        refine ⟨_, rfl, .inl ⟨rfl, _, SqL.of k6⟩, .inl (.inr ⟨_, rfl, a, rfl, ⟨_, g4.sqT ha⟩, fun D hD => ?_⟩)⟩
        refine lc_fil (walk_tup (xs := ps.map V.str)) [] (fun _ _ => True) (fun i y H' => ∃ b, y = .ref b ∧ SqT c.K H' b ((one ++ [ps.getD i Str.empty]).map V.str)) (fun i => mayS one (ps.getD i Str.empty)) yk_at
          (by omega) hD (fun _ h => nomatch h) (fun H' g => g.sqT (g4.sqT ha)) trivial (fun _ _ _ _ _ => trivial) (fun _ _ _ _ _ g ⟨b, e1, e2⟩ => ⟨b, e1, g.sqT e2⟩) ?_ ?_
        · rintro u y H6 H7 Fin Skip hu2 g6 g7 _ ⟨rfl, hx⟩ fin skip
          have hx' : y = .str (ps.getD u Str.empty) := by
            simp only [List.getElem?_map] at hx
            cases h : ps[u]? with
            | none => simp [h] at hx
            | some p => rw [List.getD_eq_getElem?_getD, h]; simpa [h] using hx.symm
          subst hx'
          have o6 := g6.sqT hoT
          have made : ∀ H8, Go [] H7 H8 → mayS one (ps.getD u Str.empty) = true → ∀ pb, H8 pb = none → rAddU c.K (.ref oa) (.ref pb) (upd H8 pb (.tup [.str (ps.getD u Str.empty)])) Fin := fun H8 g8 hm pb fpb => by
            have gpb : Go [] H8 (upd H8 pb (.tup [.str (ps.getD u Str.empty)])) := Go.new fpb
            refine r_catT (gpb.sqT (g8.sqT o6)) (SqT.of upd_same) (by rw [List.length_map, olen, sizeLine_eq]; simp; omega) fun r H9 g9 hr9 => fin _ _ hm (g8.trans (gpb.trans g9)) trivial ⟨r, rfl, ?_⟩
            rw [List.map_append]
            exact hr9
          refine ⟨rfl, _, rfl, Nat.zero_le _, fun e1 fe1 => .inr ⟨namesD one, .tuple [], dp_names ((Go.new (M := []) fe1).sqT o6), .tup (SqT.of upd_same) .nil, sh_names ook, by decide, ?_⟩⟩
          rw [eqv_nil]
          have ge1 : Go [] H7 (upd H7 e1 (.tup [])) := Go.new fe1
          refine ⟨_, rfl, ?_⟩
          cases hoe : one.getLast? with
          | none =>
            have o0 : one = [] := List.getLast?_eq_none_iff.mp hoe
            have hm : mayS one (ps.getD u Str.empty) = true := by unfold mayS; rw [hoe]
            rw [o0]
            refine (if_pos rfl).mpr ((if_pos rfl).mpr ⟨_, rfl, _, rfl, by show 1 ≤ sizeLine; decide, fun pb fpb => made _ ge1 hm pb fpb⟩)
          | some last =>
            have o1 : one.isEmpty = false := by
              cases one with
              | nil => cases hoe
              | cons a b => rfl
            rw [o1]
            refine (if_neg (by decide)).mpr ?_
            have hml : (one.map V.str).getLast? = some (.str last) := by rw [List.getLast?_map, hoe]; rfl
            refine ⟨_, rfl, .inl ⟨_, rfl, 1, rfl, ixT_last (ge1.sqT o6) hml (.inr ⟨_, _, rfl, rfl, _, rfl, ?_⟩)⟩⟩
            have em : mayS one (ps.getD u Str.empty) = decide (last.cps.toList < (ps.getD u Str.empty).cps.toList) := by unfold mayS; rw [hoe]; rfl
            by_cases hlt : last.cps.toList < (ps.getD u Str.empty).cps.toList
            · exact (if_pos (decide_eq_true hlt)).mpr ⟨_, rfl, _, rfl, by show 1 ≤ sizeLine; decide, fun pb fpb => made _ ge1 (em.trans (decide_eq_true hlt)) pb fpb⟩
            · exact (if_neg (by rw [decide_eq_false hlt]; simp)).mpr (skip _ (em.trans (decide_eq_false hlt)) ge1 trivial)
        · intro H6 ys g6 _ hD6 hl6 hr6
          obtain ⟨cs, rfl, hcs⟩ := refs_of (P := fun k b => ∀ i, ((List.range ps.length).filter fun i => mayS one (ps.getD i Str.empty))[k]? = some i → SqT c.K H6 b ((one ++ [ps.getD i Str.empty]).map V.str)) (ys := ys) fun k y hk => by
            rw [hlen] at hl6 hr6
            obtain ⟨i0, hi0⟩ : ∃ i, ((List.range ps.length).filter fun i => mayS one (ps.getD i Str.empty))[k]? = some i := ⟨_, List.getElem?_eq_getElem (by rw [← hl6]; exact (List.getElem?_eq_some_iff.mp hk).1)⟩
            obtain ⟨b, rfl, hb⟩ := hr6 k y i0 hk hi0
            refine ⟨b, rfl, fun i hi => ?_⟩
            rw [hi0] at hi
            cases hi
            exact hb
          have gN : NmsAt c.K H6 cs (growS ps one) := by
            rw [hlen, List.length_map] at hl6
            have eg : growS ps one = (((List.range ps.length).filter fun i => mayS one (ps.getD i Str.empty)).map (fun i => ps.getD i Str.empty)).map fun p => one ++ [p] := by
              unfold growS
              rw [filt_range ps (mayS one)]
            refine ⟨by rw [eg, List.length_map, List.length_map]; exact hl6, fun k b r e1 e2 => ?_⟩
            rw [eg, List.map_map, List.getElem?_map] at e2
            cases hi : ((List.range ps.length).filter fun i => mayS one (ps.getD i Str.empty))[k]? with
            | none => rw [hi] at e2; cases e2
            | some i0 =>
              rw [hi] at e2
              have er : r = one ++ [ps.getD i0 Str.empty] := (Option.some.inj e2).symm
              rw [er]
              exact hcs k b e1 i0 hi
          have k66 := g6.old lt _ (fun z => nomatch z) k6
          have k46 := g6.old l _ (fun z => nomatch z) k4
          refine r_nil ⟨lt, D, _, _, rfl, rfl, k66, hD6, ?_, ?_⟩
          · rw [List.length_map, List.length_map, gN.1, sizeLine_eq]
            have := growS_few ps one
            omega
          have gp : Go [lt] H6 (upd H6 lt (.lst (bs.map V.ref ++ cs.map V.ref))) := Go.put k66 rfl (List.Mem.head _)
          refine ⟨(g4.trans g6).mut flt0, ?_, (k5.go g6).go gp, bs ++ cs, _, _, _, ?_, ?_, rfl⟩
          · rw [upd_ne nl.symm]
            exact k46
          · rw [List.map_append]
            exact upd_same
          · have et : (setsL ps i).take (j + 1) = (setsL ps i).take j ++ [one] := by
              rw [List.take_add_one, hone]
              rfl
            rw [et, List.flatMap_append, List.flatMap_singleton]
            exact ((k7.go g6).app gN).go gp
      · rintro σ H4 ⟨g4, k4, k5, bs, y3, y5, y6, k6, k7, rfl⟩
        refine ⟨_, rfl, g4, lt, bs, _, _, _, _, flt0, k6, ?_, rfl⟩
        have e : (as.map V.ref).length = (setsL ps i).length := by rw [List.length_map, k5.1]
        rw [e, List.take_length] at k7
        exact k7
    · rintro σ H2 ⟨g2, l, as, z3, z4, z5, z6, fl, k2, k3, rfl⟩
      exact ⟨_, rfl, q H2 l as fl g2 k2 k3⟩
end
end Sd

/-! L05b: steps that are drawn -/
namespace Sd
open PySem PySem.Spec PyProof.Rows L2 RZ RT
/-- the i-th letter, the first of them -/
def ltr (i : Nat) : Str := ⟨#[97 + i]⟩
def lts (n : Nat) : Str := ⟨((List.range n).map fun i => 97 + i).toArray⟩
theorem lts_size (n : Nat) : (lts n).cps.size = n := by simp [lts]
theorem lts_at {n i : Nat} (h : i < n) : (lts n).cps[i]? = some (97 + i) := by simp [lts, h]
theorem lts_at2 {n i : Nat} (h : i < n) : (lts n).cps.toList[i]? = some (97 + i) := by simp [lts, h]
theorem cut_abch {n : Nat} (h : n ≤ 8) : cutS ("abcdefgh" : Str) none (some (n : Int)) = lts n := by
  rcases (by omega : n = 0 ∨ n = 1 ∨ n = 2 ∨ n = 3 ∨ n = 4 ∨ n = 5 ∨ n = 6 ∨ n = 7 ∨ n = 8) with z | z | z | z | z | z | z | z | z <;> subst z <;> decide +kernel
theorem ltr_lt (a b : Nat) : ltS (ltr a) (ltr b) = decide (a < b) := by
  have : ((ltr a).cps.toList < (ltr b).cps.toList) ↔ a < b := by
    show ([97 + a] < [97 + b]) ↔ a < b
    rw [List.cons_lt_cons_iff]
    simp
  unfold ltS
  exact decide_eq_decide.mpr this
theorem ltr_inj {a b : Nat} (h : ltr a = ltr b) : a = b := by
  have : (ltr a).cps[0]? = (ltr b).cps[0]? := by rw [h]
  have h2 : some (97 + a) = some (97 + b) := this
  have := Option.some.inj h2
  omega
theorem ltCps_ltr (a b : Nat) : ltCps (ltr a).cps.toList (ltr b).cps.toList = decide (a < b) := by
  show ltCps [97 + a] [97 + b] = _
  by_cases h : a < b
  · rw [decide_eq_true h]
    simp [ltCps, h]
  · rw [decide_eq_false h]
    by_cases e : b < a
    · simp [ltCps]
      omega
    · have : a = b := by omega
      subst this
      simp [ltCps]
end Sd

/-! L05c: steps that are drawn, their def -/
namespace Sd
open PySem PySem.Spec PyProof.Rows L2 RZ RT
theorem rising_letters : ∀ (ws : List Nat) (w : Nat), risingS (ltr w) (ws.map ltr) = true → (w :: ws).Pairwise (· ≤ ·)
  | [], w, _ => List.pairwise_singleton _ _
  | x :: r, w, h => by
    have h' : (!ltCps (ltr x).cps.toList (ltr w).cps.toList && risingS (ltr x) (r.map ltr)) = true := h
    rw [ltCps_ltr, Bool.and_eq_true, Bool.not_eq_true'] at h'
    have ih := rising_letters r x h'.2
    have hwx : w ≤ x := by
      have := of_decide_eq_false h'.1
      omega
    refine List.pairwise_cons.mpr ⟨fun b hb => ?_, ih⟩
    rcases List.mem_cons.mp hb with z | z
    · rw [z]; exact hwx
    · exact Nat.le_trans hwx ((List.pairwise_cons.mp ih).1 b z)
theorem letters_of {ks : List Nat} {ys : List Str} (hp : ys.Perm (ks.map ltr)) : ∃ ws : List Nat, ys = ws.map ltr ∧ ws.Perm ks := by
  have all : ∀ y ∈ ys, ∃ k, y = ltr k := fun y hy => by
    obtain ⟨k, _, e⟩ := List.mem_map.mp (hp.mem_iff.mp hy)
    exact ⟨k, e.symm⟩
  have got : ∀ {ys : List Str}, (∀ y ∈ ys, ∃ k, y = ltr k) → ∃ ws : List Nat, ys = ws.map ltr := by
    intro ys
    induction ys with
    | nil => exact fun _ => ⟨[], rfl⟩
    | cons y ys ih =>
      intro h
      obtain ⟨k, rfl⟩ := h y List.mem_cons_self
      obtain ⟨ws, rfl⟩ := ih fun z hz => h z (List.mem_cons_of_mem _ hz)
      exact ⟨k :: ws, rfl⟩
  obtain ⟨ws, rfl⟩ := got all
  refine ⟨ws, rfl, ?_⟩
  have inv : ∀ l : List Nat, (l.map ltr).map (fun s => s.cps.getD 0 0 - 97) = l := fun l => by
    rw [List.map_map]
    conv => rhs; rw [← List.map_id l]
    refine List.map_congr_left fun k _ => ?_
    show (97 + k) - 97 = k
    omega
  have h2 := hp.map (fun s => s.cps.getD 0 0 - 97)
  rw [inv, inv] at h2
  exact h2
theorem sorted_letters {ks : List Nat} (h : ks.Pairwise (· < ·)) {ys : List Str} (hp : ys.Perm (ks.map ltr)) (hs : sortedS ys = true) : ys = ks.map ltr := by
  obtain ⟨ws, rfl, hw⟩ := letters_of hp
  have hpw : ws.Pairwise (· ≤ ·) := by
    cases ws with
    | nil => exact .nil
    | cons w ws => exact rising_letters ws w hs
  have e : ws = ks := List.Perm.eq_of_pairwise (le := (· ≤ ·)) (fun a b _ _ h1 h2 => Nat.le_antisymm h1 h2) hpw (h.imp fun h => Nat.le_of_lt h) hw
  rw [e]
theorem ltr_name {k : Nat} (h : k < 8) : isNameS (ltr k) = true := by
  rcases (by omega : k = 0 ∨ k = 1 ∨ k = 2 ∨ k = 3 ∨ k = 4 ∨ k = 5 ∨ k = 6 ∨ k = 7) with z | z | z | z | z | z | z | z <;> subst z <;> decide +kernel
theorem names_fol {ks : List Nat} (h : ks.Pairwise (· < ·)) (h3 : ks.length ≤ 3) (h8 : ∀ k ∈ ks, k < 8) : namesB (ks.map ltr) = true := by
  unfold namesB
  rw [Bool.and_eq_true]
  refine ⟨List.all_eq_true.mpr fun s hs => ?_, ?_⟩
  · obtain ⟨k, hk, rfl⟩ := List.mem_map.mp hs
    exact ltr_name (h8 k hk)
  · match ks, h, h3 with
    | [], _, _ => rfl
    | [a], _, _ => rfl
    | [a, b], h, _ =>
      have : a < b := by simpa using h
      simp [ascS, ltr_lt, this]
    | [a, b, c], h, _ =>
      have h' : (a < b ∧ a < c) ∧ b < c := by simpa using h
      simp [ascS, ltr_lt, h'.1.1, h'.2]
    | a :: b :: c :: d :: r, _, h3 => simp at h3
/-- the i-th step of those that are drawn -/
structure DrawnS (N : Nat) (ps : List Str) (i : Nat) (s : Stp) : Prop where
  name : s.name = ltr i
  page : ∀ p, s.page = some p → p ∈ ps
  fol : ∃ ks : List Nat, s.fol = ks.map ltr ∧ ks.Pairwise (· < ·) ∧ ks.length ≤ 3 ∧ ∀ k ∈ ks, k < N
def drawnB (N : Nat) (ps : List Str) (ss : List Stp) : Prop := ss.length = N ∧ ∀ (i : Nat) (s : Stp), ss[i]? = some s → DrawnS N ps i s
def spSome (c : Wd) : Sp := fun vs H Q _ => ∃ (p a : Addr) (n N : Nat) (ps : List Str), vs = [.ref p, .str (lts N), .ref a] ∧ Pot H p n ∧ n ≤ 2 ^ 29 ∧ 1 ≤ N ∧ N ≤ 8 ∧ SqT c.K H a (ps.map V.str) ∧ ps.length ≤ 4 ∧
  ∀ H' t ss, Go [p] H H' → Pot H' p (n + 100) → AreStps c.K H' t ss → drawnB N ps ss → Q (.ref t) H'
theorem eqv_nilL (r : List Str) : PyData.eqv (.list (r.map PyData.str)) (.list []) = r.isEmpty := by
  cases r with
  | nil => rfl
  | cons a b => rfl
theorem sh_list {ss : List Str} (h : okS ss = true) : SeqAt.shaped (.list (ss.map PyData.str)) = true := by
  have e1 : (PyData.list (ss.map PyData.str)).canLay0 = true := lay_names h
  have e2 : (PyData.list (ss.map PyData.str)).depth = 1 := dep_names ss
  unfold SeqAt.shaped
  rw [e1, e2]
  decide
theorem ltrs_ok {ks : List Nat} (h : ∀ k ∈ ks, k < 8) : okS (ks.map ltr) = true := List.all_eq_true.mpr fun s hs => by
  obtain ⟨k, hk, rfl⟩ := List.mem_map.mp hs
  exact name_ok (ltr_name (h k hk))
theorem ne_pot {H : Hp} {p l : Addr} {n : Nat} {ss : List Str} (hp : Pot H p n) (hl : H l = some (.lst (ss.map V.str))) : l ≠ p := fun e => by
  obtain ⟨a, b, k, h1, _⟩ := hp
  rw [e, h1] at hl
  cases ss with
  | nil => cases hl
  | cons x xs =>
    have h2 := HO.lst.inj (Option.some.inj hl)
    rw [List.map_cons] at h2
    cases (List.cons.inj h2).1
theorem pick_later {c : Wd} {D : Ends} {H : Hp} {p lt : Addr} {N i cnt : Nat} {z2 z3 x5 z7 z8 : Option V} {ks : List Nat} (hu : True) (n8 : N ≤ 8) (hi : i < N) (hp : Pot H p cnt) (hc : cnt ≤ 2 ^ 29 + 200)
    (hl : H lt = some (.lst ((ks.map ltr).map V.str))) (pw : ks.Pairwise (· < ·)) (kN : ∀ k ∈ ks, k < N)
    (rest : ∀ (H' : Hp) (lx : Addr) (ks' : List Nat), Go [p] H H' → Pot H' p (cnt + 2) → H' lx = some (.lst ((ks'.map ltr).map V.str)) → ks'.Pairwise (· < ·) → (∀ k ∈ ks', k < N) →
      D.nx [some (.ref p), some (.str (lts N)), z2, z3, some (.int (i : Int)), x5, some (.ref lx), z7, z8] H') :
    tIfS (tAnd (tTest (tOp (rEqU c.K) (tVar 6) (tLst tNil))) (tOr (tTest (tOp (rEqU c.K) (tVar 4) (tC (V.int 0)))) (tTest (tOp rGtU (tCall spTake [] E0 (tCons (tVar 0) (tCons (tC (V.int 5)) tNil))) (tC (V.int 0))))))
      (tAsg (tLst (tCons (tIx c.K (tVar 1) (tOp rModU (tCB rIntU (tCons (tOp (rAddU c.K) (tOp (rAddU c.K) (tVar 4) (tC (V.int 1))) (tCall spTake [] E0 (tCons (tVar 0) (tCons (tCB (rLenU c.K) (tCons (tVar 1) tNil)) tNil)))) tNil)) (tCB (rLenU c.K) (tCons (tVar 1) tNil)))) tNil)) (gName 6)) tNext
      D [some (.ref p), some (.str (lts N)), z2, z3, some (.int (i : Int)), x5, some (.ref lt), z7, z8] H := by
  have k8 : ∀ k ∈ ks, k < 8 := fun k hk => Nat.lt_of_lt_of_le (kN k hk) n8
  have ltp := ne_pot hp hl
  have dpL : ∀ H5, Go [] H H5 → Dp c.K H5 (.ref lt) (.list ((ks.map ltr).map PyData.str)) := fun H5 g => .lst (SqL.of (g.old lt _ (fun z => nomatch z) hl)) (DpAll.strs _)
  have lsz : (lts N).length ≤ sizeLine := by
    show (lts N).cps.size ≤ sizeLine
    rw [lts_size, sizeLine_eq]
    omega
  have lln : (lts N).length = N := lts_size N
  -- a letter further on
  have body : ∀ H5, Go [p] H H5 → Pot H5 p (cnt + 1) → (tAsg (tLst (tCons (tIx c.K (tVar 1) (tOp rModU (tCB rIntU (tCons (tOp (rAddU c.K) (tOp (rAddU c.K) (tVar 4) (tC (V.int 1))) (tCall spTake [] E0 (tCons (tVar 0) (tCons (tCB (rLenU c.K) (tCons (tVar 1) tNil)) tNil)))) tNil)) (tCB (rLenU c.K) (tCons (tVar 1) tNil)))) tNil)) (gName 6))
      D [some (.ref p), some (.str (lts N)), z2, z3, some (.int (i : Int)), x5, some (.ref lt), z7, z8] H5 := by
    intro H5 g5 hp5
    refine .inl ⟨_, rfl, _, rfl, r_addI ⟨_, rfl, _, rfl, r_nil (r_lenS lsz (r_nil ⟨p, cnt + 1, N, by rw [lln]; rfl, hp5, by omega, by omega, by omega, fun r H6 hr6 g6 hp6 => r_addI (r_nil (.inl ⟨_, rfl, _, rfl, r_nil (r_lenS lsz ?_)⟩))⟩))⟩⟩
    rw [lln]
    refine r_mod (by omega) fun z z0 z1 ez => ?_
    have hz : z = (((i + 1 + r) % N : Nat) : Int) := by
      rw [ez, Int.natCast_emod, Int.natCast_add, Int.natCast_add]
      rfl
    subst hz
    have hlt : (i + 1 + r) % N < N := Nat.mod_lt _ (by omega)
    refine .inr (.inr ⟨lts N, _, 97 + (i + 1 + r) % N, rfl, rfl, lsz, atI_nat (lts_at2 hlt), ?_⟩)
    refine r_nil ⟨by show 1 ≤ sizeLine; decide, fun lx flx => ?_⟩
    have gx : Go [] H6 (upd H6 lx (.lst [.str (ltr ((i + 1 + r) % N))])) := Go.new flx
    exact rest _ lx [(i + 1 + r) % N] (g5.trans (g6.trans gx.wide)) (hp6.go gx) upd_same (List.pairwise_singleton _ _) (fun k hk => by rw [List.mem_singleton.mp hk]; exact hlt)
  refine ⟨_, rfl, Nat.zero_le _, fun e0 fe0 => .inr ⟨_, .list [], dpL _ (Go.new fe0), .lst (SqL.of upd_same) .nil, sh_list (ltrs_ok k8), by decide, ?_⟩⟩
  rw [eqv_nilL]
  have ge : Go [] H (upd H e0 (.lst [])) := Go.new fe0
  have hpe := hp.go ge
  have l5e := ge.old lt _ (fun z => nomatch z) hl
  generalize (upd H e0 (.lst [])) = H5 at ge hpe l5e ⊢
  refine ⟨_, rfl, ?_⟩
  by_cases hks : ks = []
  · have hemp : (ks.map ltr).isEmpty = true := by rw [hks]; rfl
    rw [hemp]
    refine (if_pos rfl).mpr ⟨_, rfl, .inl ⟨rfl, _, rfl, ?_⟩⟩
    by_cases hi0 : i = 0
    · exact (if_pos (decide_eq_true (by rw [hi0]; rfl))).mpr ((if_pos rfl).mpr (body H5 ge.wide (hpe.up (by omega))))
    · refine (if_neg fun z => hi0 (Int.ofNat.inj (V.int.inj (of_decide_eq_true z)))).mpr ?_
      refine ⟨_, rfl, p, cnt, 5, rfl, hpe, by omega, by decide, by decide, fun r H6 hr6 g6 hp6 => r_gtI ⟨_, rfl, ?_⟩⟩
      by_cases hr0 : 0 < r
      · exact (if_pos (decide_eq_true (by omega))).mpr (body H6 (ge.wide.trans g6) hp6)
      · refine (if_neg (by rw [decide_eq_false (by omega)]; simp)).mpr ?_
        exact rest H6 lt ks (ge.wide.trans g6) (hp6.up (by omega)) (g6.old lt _ (by simpa using ltp) l5e) pw kN
  · have hemp : (ks.map ltr).isEmpty = false := by
      cases ks with
      | nil => exact absurd rfl hks
      | cons a b => rfl
    rw [hemp]
    exact (if_neg (by decide)).mpr ((if_neg (by decide)).mpr (rest H5 lt ks ge.wide (hpe.up (by omega)) l5e pw kN))
section
variable {c : Wd}
abbrev s__law_some_steps : Stmt := topS 53
abbrev N__law_some_steps : List Str := ["_law_pot", "_law_letters", "_law_pages", "_law_found", "_law_at", "_law_letter", "_law_later_here", "_law_other", "_law_touched"]
abbrev P__law_some_steps : List Str := ["_law_pot", "_law_letters", "_law_pages"]
theorem sc__law_some_steps : FnScope N__law_some_steps P__law_some_steps (defScope s__law_some_steps) := ⟨rfl, rfl, rfl, by decide +kernel, rfl, by decide +kernel, by decide +kernel⟩
theorem ok_some_steps (F : At c "_law_some_steps" "_law_some_steps" s__law_some_steps P__law_some_steps) (B : Bi c) (D__law_take : Ok c "_law_take" 1 P__law_take spTake) (D__law_of : Ok c "_law_of" 2 P__law_of (spDrawn c)) :
    Ok c "_law_some_steps" 3 P__law_some_steps (spSome c) := by
  refine Ok.of F sc__law_some_steps (fun vs H Q E h => ?_) (fun f cdv A out s H vs Q E hr h => ?_)
  · obtain ⟨p, a, n, N, ps, rfl, _⟩ := h
    rfl
  · obtain ⟨p, a, n, N, ps, rfl, hp, hn, n1, n8, ha, hl, q⟩ := h
    have hu1 := hu_of hr
    have hu := hr.units
    have hu5 := hr.u5
    refine ⟨_, (pss_cons (ps_set (i := 3) sc__law_some_steps.nd rfl (by first | exact Or.inl rfl | exact Or.inr rfl) (pe_lst pa_nil))
    (pss_cons (ps_for PassesOwn.never rfl (pi_enumU (by rfl) B.enumerate (pa_cons (pv 1) pa_nil)) (pg_tupU (K := c.K) (n := 2) rfl (pgs_cons (pg_name (i := 4) sc__law_some_steps.nd rfl (by first | exact Or.inl rfl | exact Or.inr rfl)) (pgs_cons (pg_name (i := 5) sc__law_some_steps.nd rfl (by first | exact Or.inl rfl | exact Or.inr rfl)) pgs_nil))) (pss_cons (ps_set (i := 6) sc__law_some_steps.nd rfl (by first | exact Or.inl rfl | exact Or.inr rfl) (pe_lst pa_nil))
    (pss_cons (ps_for PassesOwn.never rfl (pi_seq (K := c.K) (pv 1)) (pg_name (i := 7) sc__law_some_steps.nd rfl (by first | exact Or.inl rfl | exact Or.inr rfl)) (pss_one (ps_expr (pe_bm PySem.F.plainAttrs_list PySem.F.slot_list_extend PySem.F.type_list_extend mt_extend (pv 6) (pa_cons (pe_op op_mulU (pe_lst (pa_cons (pv 7) pa_nil)) (pe_callTy call_intU (by rfl) B.int (by decide +kernel) (pa_cons (pe_cmpR (op_eqU (K := c.K) hu) (pe_f D__law_take (hr.mono (by decide)) (by rfl) (pa_cons (pv 0) (pa_cons pe_int pa_nil))) pe_int (nomark _)) pa_nil))) pa_nil)))))
    (pss_cons (ps_if (PW.pt (pw_and (pt_cmpR (op_eqU (K := c.K) hu) (pv 6) (pe_lst pa_nil) (nomark _)) (pw_and1 (PW.pt (pw_or (pt_cmpR (op_eqU (K := c.K) hu) (pv 4) pe_int (nomark _)) (pw_or1 (pt_cmpR op_gtU (pe_f D__law_take (hr.mono (by decide)) (by rfl) (pa_cons (pv 0) (pa_cons pe_int pa_nil))) pe_int (nomark _)))))))) (pss_one (ps_set (i := 6) sc__law_some_steps.nd rfl (by first | exact Or.inl rfl | exact Or.inr rfl) (pe_lst (pa_cons (pe_ixU (K := c.K) hu1 (pv 1) (pe_op op_modU (pe_callTy call_intU (by rfl) B.int (by decide +kernel) (pa_cons (pe_op (op_addU (K := c.K)) (pe_op (op_addU (K := c.K)) (pv 4) pe_int) (pe_f D__law_take (hr.mono (by decide)) (by rfl) (pa_cons (pv 0) (pa_cons (pe_callB (call_lenU (K := c.K)) (by rfl) B.len (by decide +kernel) (pa_cons (pv 1) pa_nil)) pa_nil)))) pa_nil)) (pe_callB (call_lenU (K := c.K)) (by rfl) B.len (by decide +kernel) (pa_cons (pv 1) pa_nil))) (fun _ _ => rfl) (fun _ _ => rfl)) pa_nil)))) pss_nil)
    (pss_cons (ps_set (i := 8) sc__law_some_steps.nd rfl (by first | exact Or.inl rfl | exact Or.inr rfl) (pe_f D__law_of (hr.mono (by decide)) (by rfl) (pa_cons (pv 0) (pa_cons (pe_op (op_addU (K := c.K)) (pe_op (op_addU (K := c.K)) (pe_callTy (call_lstU (K := c.K)) (by rfl) B.list (by decide +kernel) (pa_cons (pv 2) pa_nil)) (pe_callTy (call_lstU (K := c.K)) (by rfl) B.list (by decide +kernel) (pa_cons (pv 2) pa_nil))) (pe_lst (pa_cons pe_non pa_nil))) pa_nil))))
    (pss_one (ps_expr (pe_bm PySem.F.plainAttrs_list PySem.F.slot_list_append PySem.F.type_list_append mt_append (pv 3) (pa_cons (pe_tup (pa_cons (pv 5) (pa_cons (pv 8) (pa_cons (pe_callTy (call_tupU (K := c.K)) (by rfl) B.tuple (by decide +kernel) (pa_cons (pe_callB (call_sortU (K := c.K)) (by rfl) B.sorted (by decide +kernel) (pa_cons (pe_slice (sl_U (K := c.K)) (pv 6) po_none (po_some pe_int)) pa_nil)) pa_nil)) pa_nil)))) pa_nil)))))))))
    (pss_one (ps_ret (pe_callTy (call_tupU (K := c.K)) (by rfl) B.tuple (by decide +kernel) (pa_cons (pv 3) pa_nil)))))), ?_⟩
    dsimp only [tNext, tSeq, tAsg, tLst, tNil]
    refine ⟨Nat.zero_le _, fun t ft => ?_⟩
    obtain ⟨pa, pb, pk, hpp, _⟩ := id hp
    have ntp : t ≠ p := fun e => by rw [e, hpp] at ft; cases ft
    refine .inr ⟨_, rfl, lts N, rfl, ?_⟩
    refine for_it walk_enumS (fun i σ H' => Go [p] H H' ∧ Pot H' p (n + 12 * i) ∧ ∃ (vs : List V) (z4 z5 z6 z7 z8 : Option V) (ss : List Stp), H' t = some (.lst vs) ∧ vs.length = i ∧ ss.length = i ∧
      (∀ (j : Nat) (v : V) (s : Stp), vs[j]? = some v → ss[j]? = some s → IsStp c.K H' s v ∧ DrawnS N ps j s) ∧
      σ = [some (.ref p), some (.str (lts N)), some (.ref a), some (.ref t), z4, z5, z6, z7, z8]) ?_ (fun _ _ _ _ _ => trivial) ?_ ?_
    · exact ⟨Go.new ft, hp.go (Go.new ft), [], _, _, _, _, _, [], upd_same, rfl, rfl, fun j v s e => by simp at e, rfl⟩
    · rintro i x σ H2 H3 hi ⟨g2, hp2, vs, z4, z5, z6, z7, z8, ss, k1, k2, k3, k4, rfl⟩ ⟨T, x1, x2, rfl, fT, rfl, hx1, hx2⟩
      rw [lts_size] at hi
      cases hx1
      have e2 : x2 = .str (ltr i) := by
        have h2 : ((lts N).cps[i]?).map (fun c => V.str ⟨#[c]⟩) = some x2 := hx2
        rw [lts_at hi] at h2
        exact (Option.some.inj h2).symm
      subst e2
      have g3 : Go [] H2 (upd H2 T (.tup [.int ((i : Nat) : Int), .str (ltr i)])) := Go.new fT
      refine ⟨T, _, rfl, SqT.of upd_same, rfl, ?_⟩
      refine ⟨_, _, rfl, _, _, rfl, rfl, ?_⟩
      generalize (upd H2 T (.tup [.int ((i : Nat) : Int), .str (ltr i)])) = H3 at g3 ⊢
      dsimp only [tNext, tSeq, tAsg, tLst, tNil]
      refine ⟨Nat.zero_le _, fun lt flt => ?_⟩
      have ltp : lt ≠ p := fun e => by
        obtain ⟨_, _, _, e1, _⟩ := hp2.go g3
        rw [e, e1] at flt
        cases flt
      have hp3 := hp2.go g3
      have k13 := g3.old t _ (fun z => nomatch z) k1
      have ltt : lt ≠ t := fun e => by rw [e, k13] at flt; cases flt
      have g4 : Go [] H3 (upd H3 lt (.lst [])) := Go.new flt
      have flt0 : H lt = none := by
        cases e : H lt with
        | none => rfl
        | some o =>
          have := (g2.trans g3.wide).old lt o (by simpa using ltp) e
          rw [this] at flt
          cases flt
      refine .inr ⟨_, rfl, lts N, rfl, ?_⟩
      refine for_it (walk_sg (z := lts N)) (fun j σ H' => Go [p] H H' ∧ Pot H' p (n + 12 * i + j) ∧ H' t = some (.lst vs) ∧ (∀ (u : Nat) (v : V) (s : Stp), vs[u]? = some v → ss[u]? = some s → IsStp c.K H' s v ∧ DrawnS N ps u s) ∧
        ∃ (ks : List Nat) (y7 : Option V), H' lt = some (.lst ((ks.map ltr).map V.str)) ∧ ks.Pairwise (· < ·) ∧ (∀ k ∈ ks, k < j) ∧ ks.length ≤ j ∧ σ = [some (.ref p), some (.str (lts N)), some (.ref a), some (.ref t), some (.int ((i : Nat) : Int)), some (.str (ltr i)), some (.ref lt), y7, z8]) ?_ (fun _ _ _ _ _ => trivial) ?_ ?_
      · exact ⟨(g2.trans g3.wide).trans g4.wide, hp3.go g4, g4.old t _ (fun z => nomatch z) k13, fun u v s e1 e2 => ⟨((k4 u v s e1 e2).1.go g3).go g4, (k4 u v s e1 e2).2⟩, [], _, upd_same, .nil, (fun k hk => nomatch hk), Nat.le_refl _, rfl⟩
      · rintro j y σ H4 H5 hj ⟨g5, hp4, m1, m4, ks, y7, m5, m6, m7, m8, rfl⟩ ⟨rfl, cc, hcc, rfl⟩
        rw [lts_size] at hj
        rw [lts_at hj] at hcc
        cases hcc
        refine ⟨_, rfl, .inl ⟨rfl, _, SqL.of m5⟩, _, rfl, by show 1 ≤ sizeLine; decide, fun b1 fb1 => ?_⟩
        have gb1 : Go [] H5 (upd H5 b1 (.lst [.str (ltr j)])) := Go.new fb1
        have hb1 : (upd H5 b1 (.lst [.str (ltr j)])) b1 = some (.lst [.str (ltr j)]) := upd_same
        have b1p : b1 ≠ p := fun e => by
          obtain ⟨_, _, _, e1, _⟩ := id hp4
          rw [e, e1] at fb1
          cases fb1
        refine ⟨_, rfl, p, n + 12 * i + j, 3, rfl, hp4.go gb1, by omega, by decide, by decide, fun r H6 hr6 g6 hp6 => .inl ⟨rfl, .inr ⟨_, rfl, ?_⟩⟩⟩
        have hb16 := g6.old b1 _ (by simpa using b1p) hb1
        have eu : (if decide (V.int (r : Int) = V.int 0) = true then (1 : Int) else 0) = ((if r = 0 then 1 else 0 : Nat) : Int) := by
          by_cases h0 : r = 0
          · rw [if_pos h0, h0]
            rfl
          · have nz : ¬ V.int (r : Int) = V.int 0 := fun z => h0 (Int.ofNat.inj (V.int.inj z))
            rw [if_neg h0, decide_eq_false nz]
            rfl
        rw [eu]
        obtain ⟨u, hu'⟩ : ∃ u : Nat, u = if r = 0 then 1 else 0 := ⟨_, rfl⟩
        rw [← hu']
        have u1 : u ≤ 1 := by
          rw [hu']
          split <;> omega
        refine .inr ⟨b1, (u : Int), [.str (ltr j)], rfl, rfl, hb16, by omega, by omega, by rw [sizeLine_eq]; simp; omega, fun b2 fb2 => ?_⟩
        have el : (List.replicate ((u : Int)).toNat [V.str (ltr j)]).flatten = ((if u = 0 then [] else [j]).map ltr).map V.str := by
          rw [Int.toNat_natCast]
          rcases (by omega : u = 0 ∨ u = 1) with z | z <;> rw [z] <;> rfl
        rw [el]
        have gb2 : Go [] H6 (upd H6 b2 (.lst (((if u = 0 then [] else [j]).map ltr).map V.str))) := Go.new fb2
        have hb2 : (upd H6 b2 (.lst (((if u = 0 then [] else [j]).map ltr).map V.str))) b2 = some (.lst (((if u = 0 then [] else [j]).map ltr).map V.str)) := upd_same
        have G : Go [p] H5 (upd H6 b2 (.lst (((if u = 0 then [] else [j]).map ltr).map V.str))) := gb1.wide.trans (g6.trans gb2.wide)
        have hp7 := hp6.go gb2
        generalize (upd H6 b2 (.lst (((if u = 0 then [] else [j]).map ltr).map V.str))) = H7 at hb2 G hp7 ⊢
        have lt7 := G.old lt _ (by simpa using ltp) m5
        have t7 := G.old t _ (by simpa using ntp) m1
        have le1 : (if u = 0 then [] else [j]).length ≤ 1 := by split <;> simp
        refine r_nil ⟨lt, b2, _, _, rfl, rfl, lt7, hb2, by simp only [List.length_map]; rw [sizeLine_eq]; omega, ?_⟩
        have gp : Go [lt] H7 (upd H7 lt (.lst ((ks.map ltr).map V.str ++ ((if u = 0 then [] else [j]).map ltr).map V.str))) := Go.put lt7 rfl (List.Mem.head _)
        refine ⟨(g5.trans G).mut flt0, ?_, ?_, fun w v s e1 e2 => ⟨((m4 w v s e1 e2).1.go G).go gp, (m4 w v s e1 e2).2⟩, ks ++ (if u = 0 then [] else [j]), _, ?_, ?_, ?_, ?_, rfl⟩
        · obtain ⟨a1, a2, a3, a4, a5⟩ := hp7
          exact ⟨a1, a2, a3, by rw [upd_ne ltp.symm]; exact a4, by omega⟩
        · rw [upd_ne ltt.symm]
          exact t7
        · rw [List.map_append, List.map_append]
          exact upd_same
        · split
          · rw [List.append_nil]
            exact m6
          · refine List.pairwise_append.mpr ⟨m6, List.pairwise_singleton _ _, fun x hx y hy => ?_⟩
            rw [List.mem_singleton.mp hy]
            exact m7 x hx
        · intro k hk
          rcases List.mem_append.mp hk with z | z
          · exact Nat.lt_succ_of_lt (m7 k z)
          · split at z
            · cases z
            · rw [List.mem_singleton.mp z]
              exact Nat.lt_succ_self _
        · rw [List.length_append]
          omega
      · rintro σ H4 ⟨g5, hp4, m1, m4, ks, y7, m5, m6, m7, m8, rfl⟩
        rw [lts_size] at hp4 m7 m8
        refine pick_later (c := c) trivial n8 hi hp4 (by omega) m5 m6 m7 fun H5 lx ks2 gx hpx hlx pwx kNx => ?_
        have g05 := g5.trans gx
        have t5 := gx.old t _ (by simpa using ntp) m1
        have m5x : ∀ (u : Nat) (v : V) (s : Stp), vs[u]? = some v → ss[u]? = some s → IsStp c.K H5 s v ∧ DrawnS N ps u s := fun u v s e1 e2 => ⟨(m4 u v s e1 e2).1.go gx, (m4 u v s e1 e2).2⟩
        have lxp := ne_pot hpx hlx
        have ha5 := g05.sqT ha
        have len5 : (ps.map V.str).length = ps.length := by simp
        refine ⟨_, rfl, _, rfl, a, _, rfl, .inr ha5, fun l1 fl1 => ⟨_, rfl, a, _, rfl, .inr ((Go.new (M := []) fl1).sqT ha5), fun l2 fl2 => ?_⟩⟩
        have h1 : (upd (upd H5 l1 (.lst (ps.map V.str))) l2 (.lst (ps.map V.str))) l1 = some (.lst (ps.map V.str)) := (Go.new (M := []) fl2).old l1 _ (fun z => nomatch z) upd_same
        have gl : Go [] H5 (upd (upd H5 l1 (.lst (ps.map V.str))) l2 (.lst (ps.map V.str))) := (Go.new fl1).trans (Go.new fl2)
        have h2 : (upd (upd H5 l1 (.lst (ps.map V.str))) l2 (.lst (ps.map V.str))) l2 = some (.lst (ps.map V.str)) := upd_same
        generalize (upd (upd H5 l1 (.lst (ps.map V.str))) l2 (.lst (ps.map V.str))) = H6 at h1 gl h2 ⊢
        refine .inr (.inl ⟨l1, l2, _, _, rfl, rfl, h1, h2, by rw [len5, sizeLine_eq]; omega, fun l3 fl3 => ⟨by show 1 ≤ sizeLine; decide, fun l4 fl4 => ?_⟩⟩)
        have h3 : (upd (upd H6 l3 (.lst (ps.map V.str ++ ps.map V.str))) l4 (.lst [.non])) l3 = some (.lst (ps.map V.str ++ ps.map V.str)) := (Go.new (M := []) fl4).old l3 _ (fun z => nomatch z) upd_same
        have gl2 : Go [] H6 (upd (upd H6 l3 (.lst (ps.map V.str ++ ps.map V.str))) l4 (.lst [.non])) := (Go.new fl3).trans (Go.new fl4)
        have h4 : (upd (upd H6 l3 (.lst (ps.map V.str ++ ps.map V.str))) l4 (.lst [.non])) l4 = some (.lst [.non]) := upd_same
        generalize (upd (upd H6 l3 (.lst (ps.map V.str ++ ps.map V.str))) l4 (.lst [.non])) = H7 at h3 gl2 h4 ⊢
        refine .inr (.inl ⟨l3, l4, _, _, rfl, rfl, h3, h4, by rw [List.length_append, len5, sizeLine_eq]; simp; omega, fun l5 fl5 => ?_⟩)
        have gl3 : Go [] H7 (upd H7 l5 (.lst ((ps.map V.str ++ ps.map V.str) ++ [.non]))) := Go.new fl5
        have h5 : (upd H7 l5 (.lst ((ps.map V.str ++ ps.map V.str) ++ [.non]))) l5 = some (.lst ((ps.map V.str ++ ps.map V.str) ++ [.non])) := upd_same
        have g58 := gl.trans (gl2.trans gl3)
        have n5p : l5 ≠ p := fun e => by
          obtain ⟨_, _, _, e1, _⟩ := (hpx.go gl).go gl2
          rw [e, e1] at fl5
          cases fl5
        generalize (upd H7 l5 (.lst ((ps.map V.str ++ ps.map V.str) ++ [.non]))) = H8 at h5 g58 ⊢
        refine r_nil ⟨p, l5, n + 12 * i + N + 2, _, rfl, hpx.go g58, by omega, by simp, by rw [List.length_append, List.length_append, len5]; simp; omega, .inl ⟨n5p, h5⟩, fun r v H9 hv g9 hp9 => ?_⟩
        obtain ⟨pg, rfl, hpg⟩ : ∃ pg : Option Str, v = pgV pg ∧ ∀ q, pg = some q → q ∈ ps := by
          have hm := List.mem_of_getElem? hv
          have in_ps : v ∈ ps.map V.str → ∃ pg : Option Str, v = pgV pg ∧ ∀ q, pg = some q → q ∈ ps := fun z => by
            obtain ⟨q, hq, rfl⟩ := List.mem_map.mp z
            exact ⟨some q, rfl, fun q' e => by rw [← Option.some.inj e]; exact hq⟩
          rcases List.mem_append.mp hm with z | z
          · rcases List.mem_append.mp z with z | z
            · exact in_ps z
            · exact in_ps z
          · exact ⟨none, List.mem_singleton.mp z, fun q e => nomatch e⟩
        have g59 : Go [p] H5 H9 := g58.wide.trans g9
        have t9 := g59.old t _ (by simpa using ntp) t5
        have lx9 := g59.old lx _ (by simpa using lxp) hlx
        refine ⟨_, rfl, .inl ⟨rfl, _, SqL.of t9⟩, _, rfl, _, rfl, _, rfl, 3, rfl, r_slL (SqL.of lx9) fun b3 H10 fb3 gb3 hb3 => ?_⟩
        have ec : cutV ((ks2.map ltr).map V.str) none (some (3 : Int)) = ((ks2.take 3).map ltr).map V.str := by
          have := cut_to (xs := (ks2.map ltr).map V.str) 3
          rw [List.map_take, List.map_take]
          exact this
        rw [ec] at hb3
        have pw3 : (ks2.take 3).Pairwise (· < ·) := pwx.sublist (List.take_sublist 3 ks2)
        have k3l : (ks2.take 3).length ≤ 3 := by rw [List.length_take]; omega
        have k3N : ∀ k ∈ ks2.take 3, k < N := fun k hk => kNx k (List.mem_of_mem_take hk)
        generalize ks2.take 3 = ks3 at hb3 pw3 k3l k3N
        refine r_nil ⟨b3, ks3.map ltr, rfl, SqL.of hb3, by rw [List.length_map]; omega, fun ys sq hperm hsort fsq => ?_⟩
        obtain rfl := sorted_letters pw3 hperm hsort
        have gs : Go [] H10 (upd H10 sq (.lst ((ks3.map ltr).map V.str))) := Go.new fsq
        refine r_nil ⟨sq, _, rfl, .inl ⟨SqL.of upd_same, fun fw ffw => r_nil ⟨by show 3 ≤ sizeLine; decide, fun stA fstA => r_nil ?_⟩⟩⟩
        have gw : Go [] (upd H10 sq (.lst ((ks3.map ltr).map V.str))) (upd (upd H10 sq (.lst ((ks3.map ltr).map V.str))) fw (.tup ((ks3.map ltr).map V.str))) := Go.new ffw
        have gst : Go [] (upd (upd H10 sq (.lst ((ks3.map ltr).map V.str))) fw (.tup ((ks3.map ltr).map V.str))) (upd (upd (upd H10 sq (.lst ((ks3.map ltr).map V.str))) fw (.tup ((ks3.map ltr).map V.str))) stA (.tup [.str (ltr i), pgV pg, .ref fw])) := Go.new fstA
        have hfw : SqT c.K (upd (upd H10 sq (.lst ((ks3.map ltr).map V.str))) fw (.tup ((ks3.map ltr).map V.str))) fw ((ks3.map ltr).map V.str) := SqT.of upd_same
        have g9z : Go [] H9 _ := gb3.trans (gs.trans (gw.trans gst))
        have hst : IsStp c.K (upd (upd (upd H10 sq (.lst ((ks3.map ltr).map V.str))) fw (.tup ((ks3.map ltr).map V.str))) stA (.tup [.str (ltr i), pgV pg, .ref fw])) ⟨ltr i, pg, ks3.map ltr⟩ (.ref stA) := ⟨stA, fw, rfl, SqT.of upd_same, gst.sqT hfw⟩
        generalize (upd (upd (upd H10 sq (.lst ((ks3.map ltr).map V.str))) fw (.tup ((ks3.map ltr).map V.str))) stA (.tup [.str (ltr i), pgV pg, .ref fw])) = H13 at g9z hst ⊢
        have t13 := g9z.old t _ (fun z => nomatch z) t9
        have ft0 : H t = none := ft
        refine ⟨t, vs, .ref stA, rfl, rfl, t13, by rw [sizeLine_eq]; omega, ?_⟩
        have gp : Go [t] H13 (upd H13 t (.lst (vs ++ [.ref stA]))) := Go.put t13 rfl (List.Mem.head _)
        have g5z : Go [p] H5 H13 := g59.trans g9z.wide
        have hp13 := (hp9.go g9z)
        refine ⟨(g05.trans g5z).mut ft0, ?_, vs ++ [.ref stA], _, _, _, _, _, ss ++ [⟨ltr i, pg, ks3.map ltr⟩], upd_same, by simp [k2], by simp [k3], fun j v s e1 e2 => ?_, rfl⟩
        · obtain ⟨a1, a2, a3, a4, a5⟩ := hp13
          exact ⟨a1, a2, a3, by rw [upd_ne ntp.symm]; exact a4, by omega⟩
        · by_cases hj : j < vs.length
          · rw [List.getElem?_append_left hj] at e1
            rw [List.getElem?_append_left (by omega)] at e2
            exact ⟨((m5x j v s e1 e2).1.go g5z).go gp, (m5x j v s e1 e2).2⟩
          · have hj2 : j = vs.length := by
              have := (List.getElem?_eq_some_iff.mp e1).1
              simp at this
              omega
            subst hj2
            have ev : v = .ref stA := by simpa using e1.symm
            have es : s = ⟨ltr i, pg, ks3.map ltr⟩ := by
              rw [List.getElem?_append_right (by omega), show vs.length - ss.length = 0 by omega] at e2
              simpa using e2.symm
            subst ev es
            refine ⟨hst.go gp, ⟨by rw [k2], fun q hq => hpg q hq, ks3, rfl, pw3, k3l, k3N⟩⟩
    · rintro σ H2 ⟨g2, hp2, vs, z4, z5, z6, z7, z8, ss, k1, k2, k3, k4, rfl⟩
      rw [lts_size] at hp2 k2 k3
      refine ⟨_, rfl, r_nil ⟨t, _, rfl, .inl ⟨SqL.of k1, fun b fb => ?_⟩⟩⟩
      have gb : Go [] H2 (upd H2 b (.tup vs)) := Go.new fb
      exact q _ b ss (g2.trans gb.wide) ((hp2.go gb).up (by omega)) ⟨vs, SqT.of upd_same, by omega, fun j v s e1 e2 => ((k4 j v s e1 e2).1).go gb⟩ ⟨k3, fun j s e => by
        obtain ⟨v, hv⟩ : ∃ v, vs[j]? = some v := ⟨_, List.getElem?_eq_getElem (by have := (List.getElem?_eq_some_iff.mp e).1; omega)⟩
        exact (k4 j v s hv e).2⟩
end
end Sd

/-! L05d: a drawn machine's data, as a dict -/
namespace Sd
open PySem PySem.Spec PyProof.Rows L2 RZ RT
def pqrs : List Str := [("p" : Str), ("q" : Str), ("r" : Str), ("s" : Str)]
/-- a machine that was drawn -/
structure DrawnM (m : Mac) : Prop where
  ex : ∃ np N k, m.pages = pqrs.take np ∧ 2 ≤ np ∧ np ≤ 4 ∧ 1 ≤ N ∧ N ≤ 8 ∧ drawnB N m.pages m.steps ∧ clockB m.clock = true ∧ m.move ≤ 9 ∧ 1 ≤ k ∧ k < np ∧ m.first ∈ setsL m.pages k
def loreK (a1 a2 a3 a5 : Addr) (mv : Nat) : List (Key × V) := [(.inr ("steps" : Str), .ref a1), (.inr ("clock" : Str), .ref a2), (.inr ("pages" : Str), .ref a3), (.inr ("move" : Str), .int (mv : Int)), (.inr ("first" : Str), .ref a5)]
/-- its data stand in a dict -/
structure LoreAt (K : PySem.W.Frag) (H : Hp) (d : Addr) (m : Mac) : Prop where
  ex : ∃ a1 a2 a3 a5, H d = some (.dK (loreK a1 a2 a3 a5 m.move)) ∧ AreStps K H a1 m.steps ∧ SqT K H a2 (intsV m.clock) ∧ SqT K H a3 (m.pages.map V.str) ∧ SqT K H a5 (m.first.map V.str)
theorem LoreAt.go {K : PySem.W.Frag} {M : List Addr} {H H' : Hp} {d : Addr} {m : Mac} (h : LoreAt K H d m) (g : Go M H H') (hd : d ∉ M) : LoreAt K H' d m := by
  obtain ⟨a1, a2, a3, a5, h1, h2, h3, h4, h5⟩ := h.ex
  exact ⟨a1, a2, a3, a5, g.old d _ hd h1, h2.go g, g.sqT h3, g.sqT h4, g.sqT h5⟩
theorem lore_merge (a1 a2 a3 a5 : Addr) (mv : Nat) : mergeK [] (loreK a1 a2 a3 a5 mv) = loreK a1 a2 a3 a5 mv := rfl
theorem pqrs_ok (n : Nat) : okS (pqrs.take n) = true := okS_sub (ps := pqrs) (by decide +kernel) fun p hp => List.mem_of_mem_take hp
theorem setsL_some : ∀ np k, 2 ≤ np → np ≤ 4 → 1 ≤ k → k < np → setsL (pqrs.take np) k ≠ [] := by
  intro np k h1 h2 h3 h4
  rcases (by omega : np = 2 ∨ np = 3 ∨ np = 4) with z | z | z <;> subst z
  · obtain rfl : k = 1 := by omega
    decide +kernel
  · rcases (by omega : k = 1 ∨ k = 2) with z | z <;> subst z <;> decide +kernel
  · rcases (by omega : k = 1 ∨ k = 2 ∨ k = 3) with z | z | z <;> subst z <;> decide +kernel
def spLore (c : Wd) : Sp := fun vs H Q _ => ∃ (p : Addr) (n ms mp tk rd : Nat), vs = [.ref p, .int (ms : Int), .int (mp : Int), .int (tk : Int), .int (rd : Int)] ∧ Pot H p n ∧ n ≤ 2 ^ 28 ∧ 2 ≤ ms ∧ ms ≤ 8 ∧ 2 ≤ mp ∧ mp ≤ 4 ∧ 1 ≤ tk ∧ tk ≤ 3 ∧ 1 ≤ rd ∧ rd ≤ 3 ∧
  ∀ H' d m, H d = none → Go [p] H H' → Pot H' p (n + 120) → LoreAt c.K H' d m → DrawnM m → m.move ≤ 3 → Q (.ref d) H'
section
variable {c : Wd}
abbrev s__law_lore : Stmt := topS 54
abbrev N__law_lore : List Str := ["_law_pot", "_law_many_steps", "_law_many_pages", "_law_ticks", "_law_rounds", "_law_pages", "_law_steps", "_law_clock", "_law_size", "_law_first", "_law_turn"]
abbrev P__law_lore : List Str := ["_law_pot", "_law_many_steps", "_law_many_pages", "_law_ticks", "_law_rounds"]
theorem sc__law_lore : FnScope N__law_lore P__law_lore (defScope s__law_lore) := ⟨rfl, rfl, rfl, by decide +kernel, rfl, by decide +kernel, by decide +kernel⟩
theorem ok_lore (F : At c "_law_lore" "_law_lore" s__law_lore P__law_lore) (B : Bi c) (D__law_take : Ok c "_law_take" 1 P__law_take spTake) (D__law_of : Ok c "_law_of" 2 P__law_of (spDrawn c)) (D__law_some_steps : Ok c "_law_some_steps" 3 P__law_some_steps (spSome c))
    (D__law_sets_of : Ok c "_law_sets_of" 1 P__law_sets_of (spSetsOf c)) : Ok c "_law_lore" 4 P__law_lore (spLore c) := by
  refine Ok.of F sc__law_lore (fun vs H Q E h => ?_) (fun f cdv A out s H vs Q E hr h => ?_)
  · obtain ⟨p, n, ms, mp, tk, rd, rfl, _⟩ := h
    rfl
  · obtain ⟨p, n, ms, mp, tk, rd, rfl, hp, hn, ms2, ms8, mp2, mp4, tk1, tk3, rd1, rd3, q⟩ := h
    have hu1 := hu_of hr
    have hu := hr.units
    refine ⟨_, (pss_cons (ps_set (i := 5) sc__law_lore.nd rfl (by first | exact Or.inl rfl | exact Or.inr rfl) (pe_callTy (call_tupU (K := c.K)) (by rfl) B.tuple (by decide +kernel) (pa_cons (pe_slice (sl_U (K := c.K)) (pe_lst (pa_cons pe_str (pa_cons pe_str (pa_cons pe_str (pa_cons pe_str pa_nil))))) po_none (po_some (pe_op (op_addU (K := c.K)) pe_int (pe_f D__law_take (hr.mono (by decide)) (by rfl) (pa_cons (pv 0) (pa_cons (pe_op op_subU (pv 2) pe_int) pa_nil)))))) pa_nil)))
    (pss_cons (ps_set (i := 6) sc__law_lore.nd rfl (by first | exact Or.inl rfl | exact Or.inr rfl) (pe_f D__law_some_steps (hr.mono (by decide)) (by rfl) (pa_cons (pv 0) (pa_cons (pe_slice (sl_U (K := c.K)) pe_str po_none (po_some (pe_op (op_addU (K := c.K)) pe_int (pe_f D__law_take (hr.mono (by decide)) (by rfl) (pa_cons (pv 0) (pa_cons (pe_op op_subU (pv 1) pe_int) pa_nil)))))) (pa_cons (pv 5) pa_nil)))))
    (pss_cons (ps_set (i := 7) sc__law_lore.nd rfl (by first | exact Or.inl rfl | exact Or.inr rfl) (pe_callTy (call_tupU (K := c.K)) (by rfl) B.tuple (by decide +kernel) (pa_cons (pe_lc (own := [("_law_turn", 10)]) rfl sc__law_lore.nd (pi_range1 (by rfl) B.range (pa_cons (pe_op (op_addU (K := c.K)) pe_int (pe_f D__law_take (hr.mono (by decide)) (by rfl) (pa_cons (pv 0) (pa_cons (pv 4) pa_nil)))) pa_nil)) (blkOk_by (N := N__law_lore) (sc := defScope s__law_lore) (by decide +kernel)) (fun _ _ _ _ _ => (pg_name (i := 10) sc__law_lore.nd rfl (by first | exact Or.inl rfl | exact Or.inr rfl))) (fun _ _ _ _ _ => pts_nil) (fun _ _ _ _ _ => (pe_op (op_addU (K := c.K)) pe_int (pe_f D__law_take (hr.mono (by decide)) (by rfl) (pa_cons (pv 0) (pa_cons (pv 3) pa_nil)))))) pa_nil)))
    (pss_cons (ps_set (i := 8) sc__law_lore.nd rfl (by first | exact Or.inl rfl | exact Or.inr rfl) (pe_op (op_addU (K := c.K)) pe_int (pe_f D__law_take (hr.mono (by decide)) (by rfl) (pa_cons (pv 0) (pa_cons (pe_op op_subU (pe_callB (call_lenU (K := c.K)) (by rfl) B.len (by decide +kernel) (pa_cons (pv 5) pa_nil)) pe_int) pa_nil)))))
    (pss_cons (ps_set (i := 9) sc__law_lore.nd rfl (by first | exact Or.inl rfl | exact Or.inr rfl) (pe_f D__law_of (hr.mono (by decide)) (by rfl) (pa_cons (pv 0) (pa_cons (pe_f D__law_sets_of (hr.mono (by decide)) (by rfl) (pa_cons (pv 5) (pa_cons (pv 8) pa_nil))) pa_nil))))
    (pss_one (ps_ret (pe_disp (pps_cons pe_str (pv 6) (pps_cons pe_str (pv 7) (pps_cons pe_str (pv 5) (pps_cons pe_str (pe_f D__law_of (hr.mono (by decide)) (by rfl) (pa_cons (pv 0) (pa_cons (pe_lst (pa_cons pe_int (pa_cons pe_int (pa_cons pe_int (pa_cons pe_int (pa_cons pe_int pa_nil)))))) pa_nil))) (pps_cons pe_str (pv 9) pps_nil))))) (by rfl) (by rfl) (fun z => by cases z) (by decide))))))))), ?_⟩
    refine ⟨by show 4 ≤ sizeLine; decide, fun l0 fl0 => ?_⟩
    have g0 : Go [] H (upd H l0 (.lst [.str ("p" : Str), .str ("q" : Str), .str ("r" : Str), .str ("s" : Str)])) := Go.new fl0
    have h0 : (upd H l0 (.lst [.str ("p" : Str), .str ("q" : Str), .str ("r" : Str), .str ("s" : Str)])) l0 = some (.lst (pqrs.map V.str)) := upd_same
    have n0p : l0 ≠ p := fun e => by
      obtain ⟨_, _, _, e1, _⟩ := id hp
      rw [e, e1] at fl0
      cases fl0
    generalize (upd H l0 (.lst [.str ("p" : Str), .str ("q" : Str), .str ("r" : Str), .str ("s" : Str)])) = H0 at g0 h0 ⊢
    refine ⟨_, rfl, _, rfl, r_subI ⟨p, n, mp - 1, by rw [show ((mp : Nat) : Int) - 1 = ((mp - 1 : Nat) : Int) by omega]; rfl, hp.go g0, by omega, by omega, by omega, fun r1 H1 hr1 g1 hp1 => r_addI ⟨_, rfl, ?_⟩⟩⟩
    obtain ⟨np, hnp⟩ : ∃ m, m = 2 + r1 := ⟨_, rfl⟩
    have h01 := g1.old l0 _ (by simpa using n0p) h0
    refine r_slL (SqL.of h01) fun l1 H2 fl1 gl1 hl1 => ?_
    have ec : cutV (pqrs.map V.str) none (some ((2 : Int) + (r1 : Int))) = (pqrs.take np).map V.str := by
      rw [show (2 : Int) + (r1 : Int) = ((2 + r1 : Nat) : Int) from rfl, ← hnp, List.map_take]
      exact cut_to np
    rw [ec] at hl1
    refine r_nil ⟨l1, _, rfl, .inl ⟨SqL.of hl1, fun a3 fa3 => ?_⟩⟩
    have g3 : Go [] H2 (upd H2 a3 (.tup ((pqrs.take np).map V.str))) := Go.new fa3
    have ha3 : SqT c.K (upd H2 a3 (.tup ((pqrs.take np).map V.str))) a3 ((pqrs.take np).map V.str) := SqT.of upd_same
    have G3 : Go [p] H (upd H2 a3 (.tup ((pqrs.take np).map V.str))) := g0.wide.trans (g1.trans (gl1.trans g3).wide)
    have hp3 : Pot _ p (n + 1) := (hp1.go gl1).go g3
    generalize (upd H2 a3 (.tup ((pqrs.take np).map V.str))) = H3 at ha3 G3 hp3 ⊢
    have pl : (pqrs.take np).length = np := by
      rw [List.length_take]
      show min np 4 = np
      omega
    clear g0 g1 gl1 g3 h01 h0 hl1 hp1 fl0 fl1 fa3
    refine ⟨_, rfl, _, rfl, _, rfl, r_subI (r_nil ⟨p, n + 1, ms - 1, by rw [show ((ms : Nat) : Int) - 1 = ((ms - 1 : Nat) : Int) by omega]; rfl, hp3, by omega, by omega, by omega, fun r2 H4 hr2 g4 hp4 => r_addI ⟨_, rfl, .inr ⟨_, rfl, by decide +kernel, ?_⟩⟩⟩)⟩
    rw [show (2 : Int) + (r2 : Int) = ((2 + r2 : Nat) : Int) from rfl, cut_abch (by omega)]
    refine ⟨_, rfl, p, a3, n + 2, 2 + r2, pqrs.take np, rfl, hp4, by omega, by omega, by omega, g4.sqT ha3, by omega, fun H5 a1 ss g5 hp5 hst hdr => ?_⟩
    have ha35 := (g4.trans g5).sqT ha3
    have G5 := G3.trans (g4.trans g5)
    clear g4 g5 hp4 hp3 G3 ha3
    refine ⟨_, rfl, _, rfl, p, n + 2 + 100, rd, rfl, hp5, by omega, by omega, by omega, fun r3 H6 hr3 g6 hp6 => r_addI ⟨_, rfl, by omega, by omega, fun D hD => ?_⟩⟩
    have ndp : D ≠ p := fun e => by
      obtain ⟨_, _, _, e1, _⟩ := id hp6
      rw [e, e1] at hD
      cases hD
    refine lc_map (walk_range (lo := 0) (n := 1 + r3)) [p] (fun i H' => Pot H' p (n + 103 + i)) (fun i y _ => ∃ v : Nat, y = .int (v : Int) ∧ 1 ≤ v ∧ v ≤ 3) yk_fn
      (by omega) hD (fun b hb => ?_) (fun _ _ => trivial) (hp6.up (by omega)) (fun i H' H'' hz hk' => ?_) (fun _ _ _ _ _ _ h => h) ?_ ?_
    · rw [List.mem_singleton.mp hb]
      obtain ⟨_, _, _, e1, _⟩ := id hp6
      rw [e1]
      exact fun z => nomatch z
    · obtain ⟨x1, x2, x3, e, r⟩ := hz
      exact ⟨x1, x2, x3, by rw [hk' p (List.mem_singleton.mpr rfl)]; exact e, r⟩
    · rintro i y H7 H8 Fin hi g7 g8 hz ⟨rfl, rfl⟩ fin
      refine ⟨rfl, _, rfl, _, rfl, p, n + 103 + i, tk, rfl, hz, by omega, by omega, by omega, fun r4 H9 hr4 g9 hp9 => r_addI (fin _ _ g9 hp9 ⟨1 + r4, rfl, by omega, by omega⟩)⟩
    intro H7 ys g7 hz7 hD7 hl7 hr7
    obtain ⟨ck, rfl, hck⟩ : ∃ ck : List Nat, ys = intsV ck ∧ ∀ v ∈ ck, 1 ≤ v ∧ v ≤ 3 := by
      clear hD7 hl7
      have got : ∀ {ys : List V}, (∀ (i : Nat) (y : V), ys[i]? = some y → ∃ v : Nat, y = .int (v : Int) ∧ 1 ≤ v ∧ v ≤ 3) → ∃ ck : List Nat, ys = intsV ck ∧ ∀ v ∈ ck, 1 ≤ v ∧ v ≤ 3 := by
        intro ys
        induction ys with
        | nil => exact fun _ => ⟨[], rfl, fun v hv => nomatch hv⟩
        | cons y ys ih =>
          intro h
          obtain ⟨v, rfl, hv⟩ := h 0 y rfl
          obtain ⟨ck, rfl, hc⟩ := ih fun i z hz => h (i + 1) z (by simpa using hz)
          refine ⟨v :: ck, rfl, fun w hw => ?_⟩
          rcases List.mem_cons.mp hw with z | z
          · rw [z]; exact hv
          · exact hc w z
      exact got hr7
    have ckl : ck.length = 1 + r3 := by
      have : (intsV ck).length = 1 + r3 := hl7
      simpa [intsV] using this
    have cB : clockB ck = true := by
      simp only [clockB, Bool.and_eq_true, decide_eq_true_eq, List.all_eq_true]
      exact ⟨by omega, by omega, hck⟩
    refine r_nil ⟨D, _, rfl, .inl ⟨SqL.of hD7, fun a2 fa2 => ?_⟩⟩
    have ga2 : Go [] H7 (upd H7 a2 (.tup (intsV ck))) := Go.new fa2
    have ha2 : SqT c.K (upd H7 a2 (.tup (intsV ck))) a2 (intsV ck) := SqT.of upd_same
    have g58 : Go [p] H5 (upd H7 a2 (.tup (intsV ck))) := g6.trans (g7.trans ga2.wide)
    have hp8 : Pot _ p (n + 106) := (hz7.go ga2).up (by omega)
    generalize (upd H7 a2 (.tup (intsV ck))) = H8 at ha2 g58 hp8 ⊢
    have hst8 := hst.go g58
    have ha38 := g58.sqT ha35
    have G8 := G5.trans g58
    have pl2 : ((pqrs.take np).map V.str).length = np := by rw [List.length_map, pl]
    clear g6 g7 ga2 hz7 hD7 hr7 hl7 hst ha35 G5 hp5 hp6 hD
    refine ⟨_, rfl, _, rfl, r_nil (r_lenT ha38 (r_subI (r_nil ⟨p, n + 106, np - 1, by rw [pl2, show ((np : Nat) : Int) - 1 = ((np - 1 : Nat) : Int) by omega]; rfl, hp8, by omega, by omega, by omega, fun r5 H9 hr5 g9 hp9 => r_addI ?_⟩)))⟩
    rw [show (1 : Int) + (r5 : Int) = ((1 + r5 : Nat) : Int) from rfl]
    refine ⟨_, rfl, _, rfl, _, rfl, a3, pqrs.take np, 1 + r5, rfl, g9.sqT ha38, by omega, pqrs_ok np, by omega, fun H10 ls as fls g10 hls hN => ?_⟩
    have nlp : ls ≠ p := fun e => by
      obtain ⟨_, _, _, e1, _⟩ := id hp9
      rw [e, e1] at fls
      cases fls
    have sne := setsL_some np (1 + r5) (by omega) (by omega) (by omega) (by omega)
    have asf : as.length ≤ 4 ^ 3 := by
      rw [hN.1]
      refine Nat.le_trans (setsL_few (by omega) (1 + r5)) (Nat.pow_le_pow_right (by decide) (by omega))
    refine r_nil ⟨p, ls, n + 107, as.map V.ref, rfl, hp9.go g10, by omega, fun e => ?_, by rw [List.length_map]; omega, .inl ⟨nlp, hls⟩, fun r6 v H11 hv g11 hp11 => ?_⟩
    · have : as = [] := by simpa using e
      have h0 := hN.1
      rw [this] at h0
      exact sne (List.length_eq_zero_iff.mp h0.symm)
    obtain ⟨a5, ha5⟩ : ∃ x, as[r6]? = some x := ⟨_, List.getElem?_eq_getElem (by have := (List.getElem?_eq_some_iff.mp hv).1; simpa using this)⟩
    have ev : v = .ref a5 := ref_at ha5 hv
    subst ev
    obtain ⟨fs, hfs⟩ : ∃ x, (setsL (pqrs.take np) (1 + r5))[r6]? = some x := ⟨_, List.getElem?_eq_getElem (by rw [← hN.1]; exact (List.getElem?_eq_some_iff.mp ha5).1)⟩
    have hf5 := g11.sqT (hN.2 r6 a5 fs ha5 hfs)
    have g811 := g9.trans (g10.wide.trans g11)
    have hst11 := hst8.go g811
    have ha311 := g811.sqT ha38
    have ha211 := g811.sqT ha2
    have G11 := G8.trans g811
    clear g9 g10 g11 g811 hst8 ha38 ha2 G8 g58 hp8 hp9 hls hN hv
    refine fun d fd => ⟨_, rfl, _, rfl, _, rfl, _, rfl, by show 5 ≤ sizeLine; decide, fun lm flm => ?_⟩
    have ndp2 : d ≠ p := fun e => by
      obtain ⟨_, _, _, e1, _⟩ := id hp11
      rw [e, e1] at fd
      cases fd
    have gd : Go [] H11 (upd H11 d (.dK [])) := Go.new fd
    have hd : (upd H11 d (.dK [])) d = some (.dK []) := upd_same
    generalize (upd H11 d (.dK [])) = H12 at gd hd flm ⊢
    have gm : Go [] H12 (upd H12 lm (.lst [.int 0, .int 1, .int 1, .int 2, .int 3])) := Go.new flm
    have nlm : lm ≠ p := fun e => by
      obtain ⟨_, _, _, e1, _⟩ := hp11.go gd
      rw [e, e1] at flm
      cases flm
    refine r_nil ⟨p, lm, n + 108, [.int 0, .int 1, .int 1, .int 2, .int 3], rfl, (hp11.go gd).go gm, by omega, by simp, by simp, .inl ⟨nlm, upd_same⟩, fun r7 v H13 hv g13 hp13 => ?_⟩
    obtain ⟨mv, rfl, hmv⟩ : ∃ mv : Nat, v = .int (mv : Int) ∧ mv ≤ 3 := by
      have hm := List.mem_of_getElem? hv
      simp only [List.mem_cons, List.not_mem_nil, or_false] at hm
      rcases hm with z | z | z | z | z
      · exact ⟨0, z, by decide⟩
      · exact ⟨1, z, by decide⟩
      · exact ⟨1, z, by decide⟩
      · exact ⟨2, z, by decide⟩
      · exact ⟨3, z, by decide⟩
    have g1213 : Go [p] H12 H13 := gm.wide.trans g13
    have g1113 : Go [p] H11 H13 := gd.wide.trans g1213
    have hd13 := g1213.old d _ (by simpa using ndp2) hd
    refine ⟨_, rfl, hd13, loreK a1 a2 a3 a5 mv, rfl, by show 5 ≤ 15; decide, ?_⟩
    rw [lore_merge]
    have gfin : Go [d] H13 (upd H13 d (.dK (loreK a1 a2 a3 a5 mv))) := Go.put hd13 rfl (List.Mem.head _)
    have fd0 : H d = none := by
      cases e : H d with
      | none => rfl
      | some o =>
        have := G11.old d o (by simpa using ndp2) e
        rw [this] at fd
        cases fd
    have GH : Go [p] H (upd H13 d (.dK (loreK a1 a2 a3 a5 mv))) := (G11.trans g1113).mut fd0
    have hpF : Pot (upd H13 d (.dK (loreK a1 a2 a3 a5 mv))) p (n + 120) := by
      obtain ⟨x1, x2, x3, x4, x5⟩ := hp13
      exact ⟨x1, x2, x3, by rw [upd_ne ndp2.symm]; exact x4, by omega⟩
    exact q _ d ⟨ss, ck, pqrs.take np, mv, fs⟩ fd0 GH hpF
      ⟨a1, a2, a3, a5, upd_same, (hst11.go g1113).go gfin, gfin.sqT (g1113.sqT ha211), gfin.sqT (g1113.sqT ha311), gfin.sqT (g1113.sqT hf5)⟩
      ⟨np, 2 + r2, 1 + r5, rfl, by omega, by omega, by omega, by omega, hdr, cB, by show mv ≤ 9; omega, by omega, by omega, List.mem_of_getElem? hfs⟩ hmv
end
end Sd

/-! L05e: drawn machines are right -/
namespace Sd
open PySem PySem.Spec PyProof.Rows L2 RZ RT
def csZ : Nat → Nat → List (List Nat)
  | 2, 1 => [[0], [1]]
  | 3, 1 => [[0], [1], [2]]
  | 3, 2 => [[0, 1], [0, 2], [1, 2]]
  | 4, 1 => [[0], [1], [2], [3]]
  | 4, 2 => [[0, 1], [0, 2], [0, 3], [1, 2], [1, 3], [2, 3]]
  | 4, 3 => [[0, 1, 2], [0, 1, 3], [0, 2, 3], [1, 2, 3]]
  | _, _ => []
def chainB (n : Nat) (cs : List (List Nat)) : Bool := decide (cs ≠ []) && ((List.range cs.length).all (fun j => decide (Cmb.nextC n (cs.getD j []) = cs[j + 1]?)) && (decide (cs.length ≤ 1000) && cs.all fun a => decide (a.length ≤ 1000)))
theorem chain_of {n : Nat} {cs : List (List Nat)} (h : chainB n cs = true) : Cmb.Chain n cs := by
  simp only [chainB, Bool.and_eq_true, decide_eq_true_eq, List.all_eq_true] at h
  refine ⟨h.1, fun j a e => ?_, h.2.2.1, h.2.2.2⟩
  have hj := (List.getElem?_eq_some_iff.mp e).1
  have := h.2.1 j (List.mem_range.mpr hj)
  rw [List.getD_eq_getElem?_getD, e] at this
  exact this
def csB (np k : Nat) : Bool := decide ((csZ np k)[0]? = some (List.range k)) && (chainB np (csZ np k) && ((csZ np k).all (fun ix => ix.all fun i => decide (i < np)) && decide (((csZ np k).map fun ix => ix.map fun i => (pqrs.take np).getD i Str.empty) = setsL (pqrs.take np) k)))
theorem cs_ok : ∀ np k, 2 ≤ np → np ≤ 4 → 1 ≤ k → k < np → csB np k = true := by
  intro np k h1 h2 h3 h4
  rcases (by omega : np = 2 ∨ np = 3 ∨ np = 4) with z | z | z <;> subst z
  · obtain rfl : k = 1 := by omega
    decide +kernel
  · rcases (by omega : k = 1 ∨ k = 2) with z | z <;> subst z <;> decide +kernel
  · rcases (by omega : k = 1 ∨ k = 2 ∨ k = 3) with z | z | z <;> subst z <;> decide +kernel
theorem drawn_cs {m : Mac} (h : DrawnM m) : ∃ cs, macCs m cs ∧ setsS m cs = setsL m.pages m.first.length := by
  obtain ⟨np, N, k, hp, n2, n4, _, _, _, _, _, k1, kn, hf⟩ := h.ex
  have hl : m.first.length = k := (setsL_mem k m.first hf).1
  have pl : m.pages.length = np := by
    rw [hp, List.length_take]
    show min np 4 = np
    omega
  have hc := cs_ok np k n2 n4 k1 kn
  simp only [csB, Bool.and_eq_true, decide_eq_true_eq, List.all_eq_true] at hc
  refine ⟨csZ np k, ⟨by rw [hl]; exact hc.1, by rw [pl]; exact chain_of hc.2.1, fun ix hix i hi => by rw [pl]; exact hc.2.2.1 ix hix i hi⟩, ?_⟩
  unfold setsS
  rw [hl, hp]
  exact hc.2.2.2
theorem set_right : ∀ np k, 2 ≤ np → np ≤ 4 → 1 ≤ k → k < np → ∀ f ∈ setsL (pqrs.take np) k, setB (pqrs.take np) f = true := by
  intro np k h1 h2 h3 h4
  rcases (by omega : np = 2 ∨ np = 3 ∨ np = 4) with z | z | z <;> subst z
  · obtain rfl : k = 1 := by omega
    decide +kernel
  · rcases (by omega : k = 1 ∨ k = 2) with z | z <;> subst z <;> decide +kernel
  · rcases (by omega : k = 1 ∨ k = 2 ∨ k = 3) with z | z | z <;> subst z <;> decide +kernel
theorem drawn_names {N : Nat} {ps : List Str} {ss : List Stp} (h : drawnB N ps ss) : ss.map Stp.name = (List.range N).map ltr := by
  apply List.ext_getElem?
  intro i
  rw [List.getElem?_map, List.getElem?_map]
  by_cases hi : i < N
  · rw [List.getElem?_range hi]
    obtain ⟨s, hs⟩ : ∃ s, ss[i]? = some s := ⟨_, List.getElem?_eq_getElem (by rw [h.1]; exact hi)⟩
    rw [hs]
    exact congrArg some (h.2 i s hs).name
  · rw [List.getElem?_eq_none (by rw [h.1]; omega), List.getElem?_eq_none (by simp; omega)]
    rfl
theorem drawn_right {m : Mac} (h : DrawnM m) : macB m = true := by
  obtain ⟨np, N, k, hp, n2, n4, N1, N8, hd, hc, hmv, k1, kn, hf⟩ := h.ex
  have pq : ∀ np, 2 ≤ np → np ≤ 4 → (namesB (pqrs.take np) && (decide (2 ≤ (pqrs.take np).length) && decide ((pqrs.take np).length ≤ 4))) = true ∧ ∀ p ∈ pqrs.take np, isNameS p = true := fun np h1 h2 => by
    rcases (by omega : np = 2 ∨ np = 3 ∨ np = 4) with z | z | z <;> subst z <;> exact ⟨by decide +kernel, by decide +kernel⟩
  obtain ⟨q1, q2⟩ := pq np n2 n4
  simp only [Bool.and_eq_true, decide_eq_true_eq] at q1
  rw [← hp] at q1 q2
  have nms := drawn_names hd
  have st : stepsB m.steps = true := by
    simp only [stepsB, Bool.and_eq_true, decide_eq_true_eq, List.all_eq_true]
    refine ⟨by rw [hd.1]; exact N1, by rw [hd.1]; exact N8, fun s hs => ?_, ?_, fun s hs n hn => ?_⟩
    · obtain ⟨i, hi⟩ := List.mem_iff_getElem?.mp hs
      have D := hd.2 i s hi
      have iN : i < N := by rw [← hd.1]; exact (List.getElem?_eq_some_iff.mp hi).1
      obtain ⟨ks, e1, e2, e3, e4⟩ := D.fol
      have a1 : isNameS s.name = true := by rw [D.name]; exact ltr_name (by omega)
      have a2 : namesB s.fol = true := by rw [e1]; exact names_fol e2 e3 fun k hk => by have := e4 k hk; omega
      have a3 : s.fol.length ≤ 3 := by rw [e1, List.length_map]; exact e3
      have a4 : ∀ p, s.page = some p → isNameS p = true := fun p hp' => q2 p (D.page p hp')
      simp only [stpB, Bool.and_eq_true, decide_eq_true_eq]
      cases hpg : s.page with
      | none => simp [pageB, a1, a2, a3]
      | some p => simp [pageB, a1, a2, a3, a4 p hpg]
    · rw [nms]
      exact (List.nodup_range).map ltr fun a b hab e => hab (ltr_inj e)
    · obtain ⟨i, hi⟩ := List.mem_iff_getElem?.mp hs
      obtain ⟨ks, e1, _, _, e4⟩ := (hd.2 i s hi).fol
      rw [e1] at hn
      obtain ⟨k', hk', rfl⟩ := List.mem_map.mp hn
      rw [nms]
      exact List.mem_map.mpr ⟨k', List.mem_range.mpr (e4 k' hk'), rfl⟩
  have pg : pagesB m.steps m.pages = true := by
    simp only [pagesB, Bool.and_eq_true, decide_eq_true_eq, List.all_eq_true]
    refine ⟨q1.1, q1.2.1, q1.2.2, fun s hs => ?_⟩
    obtain ⟨i, hi⟩ := List.mem_iff_getElem?.mp hs
    have D := hd.2 i s hi
    cases hpg : s.page with
    | none => rfl
    | some p => exact decide_eq_true (D.page p hpg)
  have fs : setB m.pages m.first = true := by
    rw [hp] at hf ⊢
    exact set_right np k n2 n4 k1 kn m.first hf
  unfold macB
  rw [st, hc, pg, fs, decide_eq_true hmv]
  rfl
end Sd

/-! L05f: what the law reads off a machine's data -/
namespace Sd
open PySem PySem.Spec PyProof.Rows L2 RZ RT
/-- lore['..'] -/
theorem lget {H : Hp} {d : Addr} {k : Str} {v : V} {a1 a2 a3 a5 : Addr} {mv : Nat} (h : H d = some (.dK (loreK a1 a2 a3 a5 mv))) (e : valV (loreK a1 a2 a3 a5 mv) (.inr k) = some v) : DGet H d (.str k) (some v) := by
  rw [← e]
  exact DGet.k (k := .inr k) h
theorem lore_steps {a1 a2 a3 a5 : Addr} {mv : Nat} : valV (loreK a1 a2 a3 a5 mv) (.inr ("steps" : Str)) = some (.ref a1) := rfl
theorem lore_clock {a1 a2 a3 a5 : Addr} {mv : Nat} : valV (loreK a1 a2 a3 a5 mv) (.inr ("clock" : Str)) = some (.ref a2) := rfl
theorem lore_pages {a1 a2 a3 a5 : Addr} {mv : Nat} : valV (loreK a1 a2 a3 a5 mv) (.inr ("pages" : Str)) = some (.ref a3) := rfl
theorem lore_move {a1 a2 a3 a5 : Addr} {mv : Nat} : valV (loreK a1 a2 a3 a5 mv) (.inr ("move" : Str)) = some (.int (mv : Int)) := rfl
theorem lore_first {a1 a2 a3 a5 : Addr} {mv : Nat} : valV (loreK a1 a2 a3 a5 mv) (.inr ("first" : Str)) = some (.ref a5) := rfl
def spLSets (c : Wd) : Sp := fun vs H Q _ => ∃ (d : Addr) (m : Mac), vs = [.ref d] ∧ LoreAt c.K H d m ∧ DrawnM m ∧
  ∀ H' l as, H l = none → Go [] H H' → H' l = some (.lst (as.map V.ref)) → NmsAt c.K H' as (setsL m.pages m.first.length) → Q (.ref l) H'
/-- the page and what follows, of the step of that name -/
def spLStep (c : Wd) : Sp := fun vs H Q _ => ∃ (d : Addr) (m : Mac) (i : Nat) (s : Stp), vs = [.ref d, .str s.name] ∧ LoreAt c.K H d m ∧ DrawnM m ∧ m.steps[i]? = some s ∧
  ∀ H' t fl, Go [] H H' → SqT c.K H' t [pgV s.page, .ref fl] → SqT c.K H' fl (s.fol.map V.str) → Q (.ref t) H'
def spLTicks (c : Wd) : Sp := fun vs H Q _ => ∃ (d : Addr) (m : Mac) (n : Nat), vs = [.ref d, .int (n : Int)] ∧ LoreAt c.K H d m ∧ DrawnM m ∧ ∀ H', Go [] H H' → Q (.int (m.clock.getD (n % m.clock.length) 0 : Nat)) H'
/-- the names of the steps that may come behind the one of that name -/
def spLLater (c : Wd) : Sp := fun vs H Q _ => ∃ (d : Addr) (m : Mac) (i : Nat) (s : Stp), vs = [.ref d, .str s.name] ∧ LoreAt c.K H d m ∧ DrawnM m ∧ m.steps[i]? = some s ∧
  ∀ H' fl, Go [] H H' → SqT c.K H' fl (s.fol.map V.str) → Q (.ref fl) H'
theorem filt_one {i : Nat} : ∀ {N : Nat}, i < N → ((List.range N).filter fun j => decide (j = i)) = [i] := by
  intro N
  induction N with
  | zero => exact fun h => absurd h (Nat.not_lt_zero _)
  | succ n ih =>
    intro h
    rw [List.range_succ, List.filter_append]
    by_cases e : i = n
    · subst e
      have : ((List.range i).filter fun j => decide (j = i)) = [] := List.filter_eq_nil_iff.mpr fun j hj => by
        have := List.mem_range.mp hj
        simp
        omega
      rw [this]
      simp
    · rw [ih (by omega)]
      have : ([n].filter fun j => decide (j = i)) = [] := by
        simp
        omega
      rw [this]
      rfl
section
variable {c : Wd}
abbrev s__law_step : Stmt := topS 56
abbrev N__law_step : List Str := ["_law_lore_here", "_law_name", "_law_step_here"]
abbrev P__law_step : List Str := ["_law_lore_here", "_law_name"]
theorem sc__law_step : FnScope N__law_step P__law_step (defScope s__law_step) := ⟨rfl, rfl, rfl, by decide +kernel, rfl, by decide +kernel, by decide +kernel⟩
theorem ok_lstep (F : At c "_law_step" "_law_step" s__law_step P__law_step) (B : Bi c) : Ok c "_law_step" 1 P__law_step (spLStep c) := by
  refine Ok.of F sc__law_step (fun vs H Q E h => ?_) (fun f cdv A out s H vs Q E hr h => ?_)
  · obtain ⟨d, m, i, s, rfl, _⟩ := h
    rfl
  · obtain ⟨d, m, i, s, rfl, hL, hD, hs, q⟩ := h
    have hu1 := hu_of hr
    have hu := hr.units
    obtain ⟨a1, a2, a3, a5, h1, ⟨vs, k1, k2, k3⟩, h3, h4, h5⟩ := hL.ex
    obtain ⟨np, N, k, hp, n2, n4, _, N8, hdr, _⟩ := hD.ex
    have iN : i < N := by rw [← hdr.1]; exact (List.getElem?_eq_some_iff.mp hs).1
    have hnm : ∀ (j : Nat) (s' : Stp), m.steps[j]? = some s' → s'.name = ltr j := fun j s' e => (hdr.2 j s' e).name
    have vl : vs.length = N := by rw [k2, hdr.1]
    refine ⟨_, (pss_one (ps_ret (pe_ixU (K := c.K) hu1 (pe_lc (own := [("_law_step_here", 2)]) rfl sc__law_step.nd (pi_seq (K := c.K) (pe_ixU (K := c.K) hu1 (pv 0) pe_str (fun _ _ => rfl) (fun _ _ => rfl))) (blkOk_by (N := N__law_step) (sc := defScope s__law_step) (by decide +kernel)) (fun _ _ _ _ _ => (pg_name (i := 2) sc__law_step.nd rfl (by first | exact Or.inl rfl | exact Or.inr rfl))) (fun _ _ _ _ _ => pts_one (pt_cmpR (op_eqU (K := c.K) hu) (pe_ixU (K := c.K) hu1 (pv 2) pe_int (fun _ _ => rfl) (fun _ _ => rfl)) (pv 1) (nomark _))) (fun _ _ _ _ _ => (pe_slice (sl_U (K := c.K)) (pv 2) (po_some pe_int) po_none))) pe_int (fun _ _ => rfl) (fun _ _ => rfl)))), ?_⟩
    refine .inl (.inl (.inr (.inr ⟨_, rfl, d, _, rfl, lget h1 lore_steps, a1, rfl, ⟨_, k1⟩, fun D hD => ?_⟩)))
    refine lc_fil (walk_tup (xs := vs)) [] (fun _ _ => True) (fun j y H' => ∀ s' : Stp, m.steps[j]? = some s' → ∃ b fl, y = .ref b ∧ SqT c.K H' b [pgV s'.page, .ref fl] ∧ SqT c.K H' fl (s'.fol.map V.str)) (fun j => decide (j = i)) yk_at
      (by omega) hD (fun _ h => nomatch h) (fun H' g => g.sqT k1) trivial (fun _ _ _ _ _ => trivial) (fun _ _ _ _ _ g h s' e => let ⟨b, fl, e1, e2, e3⟩ := h s' e; ⟨b, fl, e1, g.sqT e2, g.sqT e3⟩) ?_ ?_
    · rintro j y H2 H3 Fin Skip hj g2 g3 _ ⟨rfl, hx⟩ fin skip
      obtain ⟨s', hs'⟩ : ∃ s', m.steps[j]? = some s' := ⟨_, List.getElem?_eq_getElem (by omega)⟩
      obtain ⟨b, fl, rfl, e1, e2⟩ := (k3 j y s' hx hs').go g2
      refine ⟨rfl, .inl ⟨_, rfl, ixT (i := 0) e1 rfl ⟨_, rfl, .inl ⟨rfl, _, rfl, ?_⟩⟩⟩⟩
      by_cases hji : j = i
      · have es : s' = s := by
          rw [hji, hs] at hs'
          exact (Option.some.inj hs').symm
        refine (if_pos (decide_eq_true (by rw [es]))).mpr ⟨_, rfl, 1, rfl, r_slT e1 fun b' H4 g4 hb' => fin _ _ (decide_eq_true hji) g4 trivial fun s2 e => ?_⟩
        have e2s : s2 = s' := by rw [hs'] at e; exact (Option.some.inj e).symm
        subst e2s
        have ec : cutV [V.str s2.name, pgV s2.page, .ref fl] (some (1 : Int)) none = [pgV s2.page, .ref fl] := cut_from 1
        rw [ec] at hb'
        exact ⟨b', fl, rfl, hb', g4.sqT e2⟩
      · have ne : ¬ V.str s'.name = V.str s.name := fun z => by
          have z' := V.str.inj z
          rw [hnm j s' hs', hnm i s hs] at z'
          exact hji (ltr_inj z')
        exact (if_neg (by rw [decide_eq_false ne]; simp)).mpr (skip _ (decide_eq_false hji) (Go.refl _ _) trivial)
    · intro H2 ys g2 _ hD2 hl2 hr2
      rw [vl, filt_one iN] at hl2 hr2
      obtain ⟨y0, rfl⟩ : ∃ y, ys = [y] := List.length_eq_one_iff.mp hl2
      obtain ⟨b, fl, rfl, e1, e2⟩ := hr2 0 y0 i rfl rfl s hs
      exact ixL (i := 0) hD2 rfl (q H2 b fl g2 e1 e2)
abbrev s__law_later : Stmt := topS 57
abbrev N__law_later : List Str := ["_law_lore_here", "_law_name"]
abbrev P__law_later : List Str := ["_law_lore_here", "_law_name"]
theorem sc__law_later : FnScope N__law_later P__law_later (defScope s__law_later) := ⟨rfl, rfl, rfl, by decide +kernel, rfl, by decide +kernel, by decide +kernel⟩
theorem ok_llater (F : At c "_law_later" "_law_later" s__law_later P__law_later) (B : Bi c) (D__law_step : Ok c "_law_step" 1 P__law_step (spLStep c)) : Ok c "_law_later" 2 P__law_later (spLLater c) := by
  refine Ok.of F sc__law_later (fun vs H Q E h => ?_) (fun f cdv A out s H vs Q E hr h => ?_)
  · obtain ⟨d, m, i, s, rfl, _⟩ := h
    rfl
  · obtain ⟨d, m, i, s, rfl, hL, hD, hs, q⟩ := h
    have hu1 := hu_of hr
    refine ⟨_, (pss_one (ps_ret (pe_ifExp (pt_cmpR op_isN (pv 1) pe_non (nomark _)) (pe_tup (pa_cons (pe_ixU (K := c.K) hu1 (pe_ixU (K := c.K) hu1 (pe_ixU (K := c.K) hu1 (pv 0) pe_str (fun _ _ => rfl) (fun _ _ => rfl)) pe_int (fun _ _ => rfl) (fun _ _ => rfl)) pe_int (fun _ _ => rfl) (fun _ _ => rfl)) pa_nil)) (pe_ixU (K := c.K) hu1 (pe_f D__law_step (hr.mono (by decide)) (by rfl) (pa_cons (pv 0) (pa_cons (pv 1) pa_nil))) pe_int (fun _ _ => rfl) (fun _ _ => rfl))))), ?_⟩
    refine ⟨_, rfl, rfl, _, rfl, (if_neg (by simp)).mpr ?_⟩
    exact .inl ⟨_, rfl, _, rfl, d, m, i, s, rfl, hL, hD, hs, fun H1 t fl g1 ht hfl => ixT (i := 1) ht rfl (q H1 fl g1 hfl)⟩
end
end Sd

/-! L05g: a run's turns, and what they touch, by the law's own look -/
namespace Sd
open PySem PySem.Spec PyProof.Rows L2 RZ RT
def spLParts (c : Wd) : Sp := fun vs H Q _ => ∃ (d r : Addr) (m : Mac) (ns : List Str), vs = [.ref d, .ref r] ∧ LoreAt c.K H d m ∧ DrawnM m ∧ SqT c.K H r (ns.map V.str) ∧ ns.length ≤ 1000 ∧
  ∀ H' t i, H t = none → Go [] H H' → TurnsAt c.K H' t m.clock ns i → ns.length ≤ stF m.clock i → (i = 0 ∨ stF m.clock (i - 1) < ns.length) → Q (.ref t) H'
/-- the pages that the steps of a tuple of names touch -/
def spLTouched (c : Wd) : Sp := fun vs H Q _ => ∃ (d r : Addr) (m : Mac) (ss : List Stp), vs = [.ref d, .ref r] ∧ LoreAt c.K H d m ∧ DrawnM m ∧ SqT c.K H r ((ss.map Stp.name).map V.str) ∧ ss.length ≤ 1000 ∧ (∀ s ∈ ss, ∃ i : Nat, m.steps[i]? = some s) ∧
  ∀ H' l, H l = none → Go [] H H' → H' l = some (.lst (((ss.map Stp.page).filterMap id).map V.str)) → Q (.ref l) H'
section
variable {c : Wd}
end
end Sd

/-! L05h: what a run costs, by the law's own look -/
namespace Sd
open PySem PySem.Spec PyProof.Rows L2 RZ RT
def paidL (m : Mac) (ss : List Stp) (rs : List (List Str)) : Nat → Int
  | 0 => 0
  | i + 1 => paidL m ss rs i + ((slowS (tS m.clock ss i) (rs.getD i []) : Nat) : Int) + (if 0 < i then (m.move : Int) * ((comeS (rs.getD (i - 1) []) (rs.getD i [])).length : Nat) else 0)
theorem paidL_eq (m : Mac) (ss : List Stp) (rs : List (List Str)) : ∀ i, paidL m ss rs i = (slowL m ss rs i).sum + (moveL m rs (i - 1)).sum
  | 0 => rfl
  | i + 1 => by
    have e1 : (slowL m ss rs (i + 1)).sum = (slowL m ss rs i).sum + ((slowS (tS m.clock ss i) (rs.getD i []) : Nat) : Int) := by
      simp [slowL, List.range_succ]
    show paidL m ss rs i + _ + _ = _
    rw [paidL_eq m ss rs i, e1]
    cases i with
    | zero =>
      rw [if_neg (Nat.lt_irrefl 0)]
      show _ + (moveL m rs 0).sum + _ + 0 = _ + _ + (moveL m rs 0).sum
      omega
    | succ k =>
      have e2 : (moveL m rs (k + 1)).sum = (moveL m rs k).sum + (m.move : Int) * ((comeS (rs.getD k []) (rs.getD (k + 1) [])).length : Nat) := by
        simp [moveL, List.range_succ]
      rw [if_pos (Nat.succ_pos k)]
      show _ + (moveL m rs k).sum + _ + (m.move : Int) * ((comeS (rs.getD k []) (rs.getD (k + 1) [])).length : Nat) = _ + _ + (moveL m rs (k + 1)).sum
      rw [e2]
      omega
theorem paid_total (m : Mac) (ss : List Stp) (rs : List (List Str)) : paidL m ss rs rs.length = totalS m ss rs rs.length := by
  rw [paidL_eq]
  unfold totalS
  rw [Nat.min_self]
theorem slow_list (ss : List Stp) (fs : List Str) : ((((ss.map Stp.page).filterMap id).filter fun p => decide (p ∉ fs))).length = slowS ss fs := by
  unfold slowS
  generalize ss.map Stp.page = gs
  induction gs with
  | nil => rfl
  | cons g gs ih =>
    cases g with
    | none =>
      rw [List.filterMap_cons_none rfl, ih]
      rfl
    | some p =>
      have e0 : List.filterMap id (some p :: gs) = p :: List.filterMap id gs := by simp
      rw [e0, List.filter_cons, List.filter_cons]
      have e : slowB fs (some p) = decide (p ∉ fs) := rfl
      rw [e]
      split
      · rw [List.length_cons, List.length_cons, ih]
      · exact ih
theorem str_at {xs : List Str} {j : Nat} {y : V} (h : (xs.map V.str)[j]? = some y) : y = .str (xs.getD j Str.empty) := by
  rw [List.getElem?_map] at h
  cases e : xs[j]? with
  | none => rw [e] at h; cases h
  | some p =>
    rw [e] at h
    rw [List.getD_eq_getElem?_getD, e]
    exact (Option.some.inj h).symm
def spLPaid (c : Wd) : Sp := fun vs H Q _ => ∃ (d r v : Addr) (m : Mac) (ss : List Stp) (rs : List (List Str)), vs = [.ref d, .ref r, .ref v] ∧ LoreAt c.K H d m ∧ DrawnM m ∧ SqT c.K H r ((ss.map Stp.name).map V.str) ∧ ss.length ≤ 1000 ∧ (∀ s ∈ ss, ∃ i : Nat, m.steps[i]? = some s) ∧
  WatAt c.K H v rs ∧ rowB rs = true ∧ turnsIn m ss rs.length ∧ ∀ H', Go [] H H' → Q (.int (totalS m ss rs rs.length)) H'
section
variable {c : Wd}
end
end Sd

/-! L05i: drawn runs and rows; the machine made of what was drawn -/
namespace Sd
open PySem PySem.Spec PyProof.Rows L2 RZ RT
theorem ne_lore {K : PySem.W.Frag} {H : Hp} {d p : Addr} {m : Mac} {n : Nat} (hL : LoreAt K H d m) (hp : Pot H p n) : d ≠ p := fun e => by
  obtain ⟨_, _, _, _, h1, _⟩ := hL.ex
  obtain ⟨_, _, _, h2, _⟩ := hp
  rw [e, h2] at h1
  cases h1
theorem run_one {m : Mac} {s : Stp} (h : m.steps[0]? = some s) : runOf m [s] := by
  refine ⟨⟨⟨s, h, rfl⟩, fun j a b h1 h2 => ?_, by simp⟩, fun s' hs' => ?_⟩
  · simp at h2
  · rw [List.mem_singleton.mp hs']
    exact ⟨0, h⟩
theorem run_snoc {m : Mac} {ss : List Stp} {s s2 : Stp} {k : Nat} (h : runOf m ss) (hl : ss.getLast? = some s) (hk : m.steps[k]? = some s2) (hf : s2.name ∈ s.fol) (hn : ss.length < 1000) : runOf m (ss ++ [s2]) := by
  obtain ⟨⟨⟨s0, b1, b2⟩, nx, few⟩, hin⟩ := h
  have hne : ss ≠ [] := fun e => by rw [e] at hl; cases hl
  have hpos : 1 ≤ ss.length := List.length_pos_iff.mpr hne
  refine ⟨⟨⟨s0, b1, ?_⟩, fun j a b h1 h2 => ?_, by simp; omega⟩, fun s' hs' => ?_⟩
  · rw [List.map_append, List.getElem?_append_left (by rw [List.length_map]; exact hpos)]
    exact b2
  · rw [List.map_append] at h1 h2
    by_cases hj : j + 1 < ss.length
    · rw [List.getElem?_append_left (by rw [List.length_map]; omega)] at h1 h2
      exact nx j a b h1 h2
    · have hj2 : j + 1 = ss.length := by
        have := (List.getElem?_eq_some_iff.mp h2).1
        simp at this
        omega
      rw [List.getElem?_append_left (by rw [List.length_map]; omega)] at h1
      rw [List.getElem?_append_right (by rw [List.length_map]; omega), List.length_map, hj2, Nat.sub_self] at h2
      have eb : s2.name = b := by simpa using h2
      have ea : s.name = a := by
        rw [List.getLast?_eq_getElem?, show ss.length - 1 = j by omega] at hl
        rw [List.getElem?_map, hl] at h1
        exact Option.some.inj h1
      obtain ⟨i, hi⟩ := hin s (List.mem_of_getLast? hl)
      exact ⟨i, s, hi, ea, by rw [← eb]; exact hf⟩
  · rcases List.mem_append.mp hs' with z | z
    · exact hin s' z
    · rw [List.mem_singleton.mp z]
      exact ⟨k, hk⟩
def spLRun (c : Wd) : Sp := fun vs H Q _ => ∃ (p d : Addr) (m : Mac) (n up : Nat), vs = [.ref p, .ref d, .int (up : Int)] ∧ Pot H p n ∧ n ≤ 2 ^ 28 ∧ 1 ≤ up ∧ up ≤ 100 ∧ LoreAt c.K H d m ∧ DrawnM m ∧
  ∀ H' r ss, Go [p] H H' → Pot H' p (n + 1 + up) → SqT c.K H' r ((ss.map Stp.name).map V.str) → runOf m ss → 1 ≤ ss.length → ss.length ≤ up → Q (.ref r) H'
def spLMade (c : Wd) (C : Addr) : Sp := fun vs H Q _ => ∃ (d : Addr) (m : Mac), vs = [.ref d] ∧ LoreAt c.K H d m ∧ DrawnM m ∧ ∀ H' o cs, Go [] H H' → MacAt c.K C H' o m cs → macCs m cs → setsS m cs = setsL m.pages m.first.length → Q (.ref o) H'
def spLRow (c : Wd) : Sp := fun vs H Q _ => ∃ (p d r : Addr) (m : Mac) (n : Nat) (ss : List Stp), vs = [.ref p, .ref d, .ref r] ∧ Pot H p n ∧ n ≤ 2 ^ 28 ∧ LoreAt c.K H d m ∧ DrawnM m ∧ SqT c.K H r ((ss.map Stp.name).map V.str) ∧ 1 ≤ ss.length ∧ ss.length ≤ 100 ∧
  ∀ H' v rs, Go [p] H H' → Pot H' p (n + 100) → WatAt c.K H' v rs → turnsIn m ss rs.length → rs[0]? = some m.first → (∀ r ∈ rs, r ∈ setsL m.pages m.first.length) → Q (.ref v) H'
theorem rows_of {K : PySem.W.Frag} {H : Hp} {P : List Str → Prop} : ∀ {ys : List V}, (∀ (i : Nat) (y : V), ys[i]? = some y → ∃ a r, y = .ref a ∧ SqT K H a (r.map V.str) ∧ P r) → ∃ as rs, ys = as.map V.ref ∧ NmsAt K H as rs ∧ ∀ r ∈ rs, P r := by
  intro ys
  induction ys with
  | nil => exact fun _ => ⟨[], [], rfl, ⟨rfl, fun j x r e => by simp at e⟩, fun r h => nomatch h⟩
  | cons y ys ih =>
    intro h
    obtain ⟨a, r, rfl, h1, h2⟩ := h 0 y rfl
    obtain ⟨as, rs, rfl, h3, h4⟩ := ih fun i z e => h (i + 1) z (by simpa using e)
    refine ⟨a :: as, r :: rs, rfl, ⟨by simp [h3.1], fun j x q e1 e2 => ?_⟩, fun q hq => ?_⟩
    · cases j with
      | zero =>
        have e1' : a = x := by simpa using e1
        have e2' : r = q := by simpa using e2
        subst e1' e2'
        exact h1
      | succ j => exact h3.2 j x q (by simpa using e1) (by simpa using e2)
    · rcases List.mem_cons.mp hq with z | z
      · rw [z]; exact h2
      · exact h4 q z
section
variable {c : Wd} {C : Addr}
abbrev s__law_drawn_run : Stmt := topS 59
abbrev N__law_drawn_run : List Str := ["_law_pot", "_law_lore_here", "_law_upto", "_law_run", "_law_tick", "_law_later_here"]
abbrev P__law_drawn_run : List Str := ["_law_pot", "_law_lore_here", "_law_upto"]
theorem sc__law_drawn_run : FnScope N__law_drawn_run P__law_drawn_run (defScope s__law_drawn_run) := ⟨rfl, rfl, rfl, by decide +kernel, rfl, by decide +kernel, by decide +kernel⟩
theorem ok_lrun (F : At c "_law_drawn_run" "_law_drawn_run" s__law_drawn_run P__law_drawn_run) (B : Bi c) (D__law_take : Ok c "_law_take" 1 P__law_take spTake) (D__law_later : Ok c "_law_later" 2 P__law_later (spLLater c)) (D__law_of : Ok c "_law_of" 2 P__law_of (spDrawn c)) :
    Ok c "_law_drawn_run" 3 P__law_drawn_run (spLRun c) := by
  refine Ok.of F sc__law_drawn_run (fun vs H Q E h => ?_) (fun f cdv A out s H vs Q E hr h => ?_)
  · obtain ⟨p, d, m, n, up, rfl, _⟩ := h
    rfl
  · obtain ⟨p, d, m, n, up, rfl, hp, hn, u1, u2, hL, hD, q⟩ := h
    have hu1 := hu_of hr
    have hu := hr.units
    obtain ⟨a1, a2, a3, a5, h1, ⟨vs, k1, k2, k3⟩, _⟩ := hL.ex
    obtain ⟨np, N, k, _, _, _, N1, N8, hdr, _⟩ := hD.ex
    obtain ⟨s0, hs0⟩ : ∃ s, m.steps[0]? = some s := ⟨_, List.getElem?_eq_getElem (by rw [hdr.1]; omega)⟩
    obtain ⟨v0, hv0⟩ : ∃ v, vs[0]? = some v := ⟨_, List.getElem?_eq_getElem (by rw [k2, hdr.1]; omega)⟩
    obtain ⟨b, fl, rfl, e1, e2⟩ := k3 0 v0 s0 hv0 hs0
    have ndp := ne_lore hL hp
    refine ⟨_, (pss_cons (ps_set (i := 3) sc__law_drawn_run.nd rfl (by first | exact Or.inl rfl | exact Or.inr rfl) (pe_tup (pa_cons (pe_ixU (K := c.K) hu1 (pe_ixU (K := c.K) hu1 (pe_ixU (K := c.K) hu1 (pv 1) pe_str (fun _ _ => rfl) (fun _ _ => rfl)) pe_int (fun _ _ => rfl) (fun _ _ => rfl)) pe_int (fun _ _ => rfl) (fun _ _ => rfl)) pa_nil)))
    (pss_cons (ps_for PassesOwn.never rfl (pi_range1 (by rfl) B.range (pa_cons (pe_f D__law_take (hr.mono (by decide)) (by rfl) (pa_cons (pv 0) (pa_cons (pv 2) pa_nil))) pa_nil)) (pg_name (i := 4) sc__law_drawn_run.nd rfl (by first | exact Or.inl rfl | exact Or.inr rfl)) (pss_cons (ps_set (i := 5) sc__law_drawn_run.nd rfl (by first | exact Or.inl rfl | exact Or.inr rfl) (pe_f D__law_later (hr.mono (by decide)) (by rfl) (pa_cons (pv 1) (pa_cons (pe_ixU (K := c.K) hu1 (pv 3) (pe_un un_neg pe_int) (fun _ _ => rfl) (fun _ _ => rfl)) pa_nil))))
    (pss_one (ps_if (pt_cmpR (op_neU (K := c.K) hu) (pv 5) (pe_tup pa_nil) (nomark _)) (pss_one (ps_set (i := 3) sc__law_drawn_run.nd rfl (by first | exact Or.inl rfl | exact Or.inr rfl) (pe_op (op_addU (K := c.K)) (pv 3) (pe_tup (pa_cons (pe_f D__law_of (hr.mono (by decide)) (by rfl) (pa_cons (pv 0) (pa_cons (pv 5) pa_nil))) pa_nil))))) pss_nil))))
    (pss_one (ps_ret (pv 3))))), ?_⟩
    refine .inl (.inl (.inr ⟨_, rfl, d, _, rfl, lget h1 lore_steps, ixT (i := 0) k1 hv0 (ixT (i := 0) e1 rfl (r_nil ⟨by show 1 ≤ sizeLine; decide, fun r0 fr0 => ?_⟩))⟩))
    have g0 : Go [] H (upd H r0 (.tup [.str s0.name])) := Go.new fr0
    have hr0 : SqT c.K (upd H r0 (.tup [.str s0.name])) r0 (([s0].map Stp.name).map V.str) := SqT.of upd_same
    generalize (upd H r0 (.tup [.str s0.name])) = H0 at g0 hr0 ⊢
    refine ⟨_, rfl, _, rfl, p, n, up, rfl, hp.go g0, by omega, by omega, by omega, fun tk H1 htk g1 hp1 => ⟨_, rfl, by omega, by omega, ?_⟩⟩
    refine for_it (walk_range (lo := 0) (n := tk)) (fun i σ H' => Go [p] H H' ∧ Pot H' p (n + 1 + i) ∧ ∃ (r : Addr) (ss : List Stp) (z4 z5 : Option V), SqT c.K H' r ((ss.map Stp.name).map V.str) ∧ runOf m ss ∧ 1 ≤ ss.length ∧ ss.length ≤ i + 1 ∧
      σ = [some (.ref p), some (.ref d), some (.int (up : Int)), some (.ref r), z4, z5]) ⟨g0.wide.trans g1, hp1, r0, [s0], _, _, g1.sqT hr0, run_one hs0, Nat.le_refl _, Nat.le_refl _, rfl⟩ (fun _ _ _ _ _ => trivial) ?_ ?_
    · rintro i y σ H2 H3 hi ⟨g2, hp2, r, ss, z4, z5, m1, m2, m3, m4, rfl⟩ ⟨rfl, rfl⟩
      have hne : ss ≠ [] := List.length_pos_iff.mp m3
      obtain ⟨sl, hsl⟩ : ∃ s, ss.getLast? = some s := by
        cases h : ss.getLast? with
        | none => exact absurd (List.getLast?_eq_none_iff.mp h) hne
        | some s => exact ⟨s, rfl⟩
      obtain ⟨il, hil⟩ := m2.2 sl (List.mem_of_getLast? hsl)
      have hlast : ((ss.map Stp.name).map V.str).getLast? = some (.str sl.name) := by rw [List.getLast?_map, List.getLast?_map, hsl]; rfl
      have hL2 := hL.go g2 (by simpa using ndp)
      refine ⟨_, rfl, .inl ⟨_, rfl, 1, rfl, ixT_last m1 hlast (r_nil ⟨d, m, il, sl, rfl, hL2, hD, hil, fun H4 fl g4 hfl => ?_⟩)⟩⟩
      obtain ⟨ks, ef, f1, f2, f3⟩ := (hdr.2 il sl hil).fol
      have fok : okS sl.fol = true := by
        rw [ef]
        exact ltrs_ok fun k hk => by have := f3 k hk; omega
      have g24 : Go [p] H H4 := g2.trans g4.wide
      refine ⟨_, rfl, Nat.zero_le _, fun e0 fe0 => .inr ⟨namesD sl.fol, .tuple [], dp_names ((Go.new (M := []) fe0).sqT hfl), .tup (SqT.of upd_same) .nil, sh_names fok, by decide, ?_⟩⟩
      rw [eqv_nil]
      have ge : Go [] H4 (upd H4 e0 (.tup [])) := Go.new fe0
      have hfl5 := ge.sqT hfl
      generalize (upd H4 e0 (.tup [])) = H5 at ge hfl5 ⊢
      refine ⟨_, rfl, ?_⟩
      have hp5 := (hp2.go g4).go ge
      have g25 : Go [p] H H5 := g24.trans ge.wide
      by_cases hem : sl.fol = []
      · rw [hem]
        refine (if_neg (by decide)).mpr ⟨g25, hp5.up (by omega), r, ss, _, _, (g4.trans ge).sqT m1, m2, m3, by omega, rfl⟩
      · have hie : sl.fol.isEmpty = false := by
          cases hf : sl.fol with
          | nil => exact absurd hf hem
          | cons a b => rfl
        rw [hie]
        refine (if_pos rfl).mpr ⟨_, rfl, _, rfl, _, rfl, p, fl, n + 1 + i, sl.fol.map V.str, rfl, hp5, by omega, by simpa using hem, by rw [ef]; simp; omega, .inr hfl5, fun r6 v H6 hv g6 hp6 => r_nil ⟨by show 1 ≤ sizeLine; decide, fun w fw => ?_⟩⟩
        obtain ⟨k', hk', rfl⟩ : ∃ k', k' ∈ ks ∧ v = .str (ltr k') := by
          have hm := List.mem_of_getElem? hv
          obtain ⟨q', hq', rfl⟩ := List.mem_map.mp hm
          rw [ef] at hq'
          obtain ⟨k', hk', rfl⟩ := List.mem_map.mp hq'
          exact ⟨k', hk', rfl⟩
        obtain ⟨s2, hs2⟩ : ∃ s, m.steps[k']? = some s := ⟨_, List.getElem?_eq_getElem (by rw [hdr.1]; exact f3 k' hk')⟩
        have hn2 : s2.name = ltr k' := (hdr.2 k' s2 hs2).name
        have gw : Go [] H6 (upd H6 w (.tup [.str (ltr k')])) := Go.new fw
        refine r_catT (gw.sqT (g6.sqT ((g4.trans ge).sqT m1))) (SqT.of upd_same) (by simp only [List.length_map]; rw [sizeLine_eq]; simp; omega) fun r2 H7 g7 hr2 => ?_
        refine ⟨(g25.trans g6).trans (gw.trans g7).wide, ((hp6.go gw).go g7).up (by omega), r2, ss ++ [s2], _, _, ?_, run_snoc m2 hsl hs2 (by rw [hn2, ef]; exact List.mem_map.mpr ⟨k', hk', rfl⟩) (by omega), by simp, by simp; omega, rfl⟩
        rw [List.map_append, List.map_append]
        show SqT c.K H7 r2 ((ss.map Stp.name).map V.str ++ [V.str s2.name])
        rw [hn2]
        exact hr2
    · rintro σ H2 ⟨g2, hp2, r, ss, z4, z5, m1, m2, m3, m4, rfl⟩
      exact ⟨_, rfl, q H2 r ss g2 (hp2.up (by omega)) m1 m2 m3 (by omega)⟩
abbrev s__law_made : Stmt := topS 60
abbrev N__law_made : List Str := ["_law_lore_here"]
abbrev P__law_made : List Str := ["_law_lore_here"]
theorem sc__law_made : FnScope N__law_made P__law_made (defScope s__law_made) := ⟨rfl, rfl, rfl, by decide +kernel, rfl, by decide +kernel, by decide +kernel⟩
theorem ok_lmade (F : At c "_law_made" "_law_made" s__law_made P__law_made) (D_Machine : MkO c "Machine" C 5 P_Machine___init__ (spMac c C)) : Ok c "_law_made" 7 P__law_made (spLMade c C) := by
  refine Ok.of F sc__law_made (fun vs H Q E h => ?_) (fun f cdv A out s H vs Q E hr h => ?_)
  · obtain ⟨d, m, rfl, _⟩ := h
    rfl
  · obtain ⟨d, m, rfl, hL, hD, q⟩ := h
    have hu1 := hu_of hr
    have hB := drawn_right hD
    obtain ⟨cs, hC, hS⟩ := drawn_cs hD
    obtain ⟨a1, a2, a3, a5, h1, h2, h3, h4, h5⟩ := hL.ex
    refine ⟨_, (pss_one (ps_ret (pe_mkO D_Machine (hr.mono (by decide)) (by rfl) (pa_cons (pe_ixU (K := c.K) hu1 (pv 0) pe_str (fun _ _ => rfl) (fun _ _ => rfl)) (pa_cons (pe_ixU (K := c.K) hu1 (pv 0) pe_str (fun _ _ => rfl) (fun _ _ => rfl)) (pa_cons (pe_ixU (K := c.K) hu1 (pv 0) pe_str (fun _ _ => rfl) (fun _ _ => rfl)) (pa_cons (pe_ixU (K := c.K) hu1 (pv 0) pe_str (fun _ _ => rfl) (fun _ _ => rfl)) (pa_cons (pe_ixU (K := c.K) hu1 (pv 0) pe_str (fun _ _ => rfl) (fun _ _ => rfl)) pa_nil)))))))), ?_⟩
    refine .inr ⟨_, rfl, d, _, rfl, lget h1 lore_steps, .inr ⟨_, rfl, d, _, rfl, lget h1 lore_clock, .inr ⟨_, rfl, d, _, rfl, lget h1 lore_pages, .inr ⟨_, rfl, d, _, rfl, lget h1 lore_move, .inr ⟨_, rfl, d, _, rfl, lget h1 lore_first, r_nil fun x dx fx fdx hne => ?_⟩⟩⟩⟩⟩
    have gX : Go [] H (upd (upd H dx (.own x)) x (.ins C dx [])) := (Go.new fdx).trans (Go.new (by rw [upd_ne hne.symm]; exact fx))
    exact ⟨x, a1, a2, a3, a5, dx, m, cs, rfl, upd_same, h2.go gX, gX.sqT h3, gX.sqT h4, gX.sqT h5, hB, hC, fun H13 kp hM => ⟨rfl, q H13 x cs (keep_go fx fdx kp) hM hC hS⟩⟩
end
end Sd

/-! L05j: the law's look at prices of drawn rows -/
namespace Sd
open PySem PySem.Spec PyProof.Rows L2 RZ RT
theorem piled_le {L : Nat} : ∀ {ts : List Str}, (∀ t ∈ ts, t.length ≤ L) → piled ts ≤ ts.length * (L + 2)
  | [], _ => by simp [piled]
  | t :: ts, h => by
    have h1 := h t List.mem_cons_self
    have h2 := piled_le (ts := ts) fun x hx => h x (List.mem_cons_of_mem _ hx)
    have e : piled (t :: ts) = t.length + 2 + piled ts := by simp [piled]
    rw [e, List.length_cons, Nat.succ_mul]
    omega
theorem shownAll_map : ∀ xs : List PyData, PyData.shownAll xs = xs.map PyData.shown
  | [] => rfl
  | x :: xs => by
    show x.shown :: PyData.shownAll xs = _
    rw [shownAll_map xs]
    rfl
theorem tup_shown {xs : List PyData} {L : Nat} (h : ∀ x ∈ xs, x.shown.length ≤ L) : (PyData.tuple xs).shown.length ≤ xs.length * (L + 2) + 3 := by
  have e : (PyData.tuple xs).shown = tupleText (xs.map PyData.shown) := by
    show tupleText (PyData.shownAll xs) = _
    rw [shownAll_map]
  rw [e]
  unfold tupleText
  rw [strLen_append, strLen_append]
  have e1 : ("(" : Str).length = 1 := rfl
  have e2 : ((if (xs.map PyData.shown).length == 1 then ",)" else ")" : String) : Str).length ≤ 2 := by
    split <;> decide +kernel
  by_cases hx : xs = []
  · subst hx
    have e3 : (Str.join ", " (([] : List PyData).map PyData.shown)).length = 0 := by decide +kernel
    rw [e1, e3]
    simp only [List.length_nil]
    omega
  · have h1 := join_length_add (xs.map PyData.shown) (by simpa using hx)
    have h2 := piled_le (ts := xs.map PyData.shown) (L := L) fun t ht => by
      obtain ⟨x, hx, rfl⟩ := List.mem_map.mp ht
      exact h x hx
    rw [List.length_map] at h2
    omega
/-- texts that show in three signs -/
def tinyB (s : Str) : Bool := decide ((PyData.str s).shown.length ≤ 3)
theorem ltr_tiny {k : Nat} (h : k < 8) : tinyB (ltr k) = true := by
  rcases (by omega : k = 0 ∨ k = 1 ∨ k = 2 ∨ k = 3 ∨ k = 4 ∨ k = 5 ∨ k = 6 ∨ k = 7) with z | z | z | z | z | z | z | z <;> subst z <;> decide +kernel
theorem pqrs_tiny : ∀ p ∈ pqrs, tinyB p = true := by decide +kernel
theorem names_len {ss : List Str} (h : ∀ s ∈ ss, tinyB s = true) : (namesD ss).shown.length ≤ ss.length * 5 + 3 := by
  have := tup_shown (xs := ss.map PyData.str) (L := 3) fun x hx => by
    obtain ⟨s, hs, rfl⟩ := List.mem_map.mp hx
    exact of_decide_eq_true (h s hs)
  rw [List.length_map] at this
  exact this
theorem names_show : ∀ ss : List Str, PyData.showableAll (ss.map PyData.str) = true
  | [] => rfl
  | s :: ss => by
    show (true && PyData.showableAll (ss.map PyData.str)) = true
    rw [names_show ss]
    rfl
def rowsD (rs : List (List Str)) : PyData := .tuple (rs.map namesD)
theorem rows_show : ∀ rs : List (List Str), PyData.showableAll (rs.map namesD) = true
  | [] => rfl
  | r :: rs => by
    show (PyData.showableAll (r.map PyData.str) && PyData.showableAll (rs.map namesD)) = true
    rw [names_show r, rows_show rs]
    rfl
theorem rows_len {rs : List (List Str)} {k : Nat} (h : ∀ r ∈ rs, r.length ≤ k ∧ ∀ s ∈ r, tinyB s = true) : (rowsD rs).shown.length ≤ rs.length * (k * 5 + 5) + 3 := by
  have := tup_shown (xs := rs.map namesD) (L := k * 5 + 3) fun x hx => by
    obtain ⟨r, hr, rfl⟩ := List.mem_map.mp hx
    have h1 := names_len (h r hr).2
    have h2 := (h r hr).1
    have h3 : r.length * 5 ≤ k * 5 := Nat.mul_le_mul_right 5 h2
    omega
  rw [List.length_map] at this
  exact this
theorem rows_dep : ∀ rs : List (List Str), PyData.depthAll (rs.map namesD) ≤ 1
  | [] => Nat.zero_le _
  | r :: rs => by
    show max (namesD r).depth (PyData.depthAll (rs.map namesD)) ≤ 1
    rw [dep_names]
    have := rows_dep rs
    omega
/-- a run beside a row -/
def bothD (ns : List Str) (rs : List (List Str)) : PyData := .tuple [namesD ns, rowsD rs]
theorem both_show (ns : List Str) (rs : List (List Str)) : (bothD ns rs).showable = true := by
  show ((PyData.showableAll (ns.map PyData.str)) && ((PyData.showableAll (rs.map namesD)) && true)) = true
  rw [names_show, rows_show]
  rfl
theorem both_dep (ns : List Str) (rs : List (List Str)) : (bothD ns rs).depth ≤ 3 := by
  show max (namesD ns).depth (max (rowsD rs).depth 0) + 1 ≤ 3
  have h1 := dep_names ns
  have h2 : (rowsD rs).depth ≤ 2 := by
    show PyData.depthAll (rs.map namesD) + 1 ≤ 2
    have := rows_dep rs
    omega
  omega
theorem both_len {ns : List Str} {rs : List (List Str)} {a b : Nat} (h1 : (namesD ns).shown.length ≤ a) (h2 : (rowsD rs).shown.length ≤ b) : (bothD ns rs).shown.length ≤ 2 * (a + b + 2) + 3 := by
  have := tup_shown (xs := [namesD ns, rowsD rs]) (L := a + b) fun x hx => by
    rcases List.mem_cons.mp hx with z | z
    · rw [z]; omega
    · rw [List.mem_singleton.mp z]; omega
  exact this
theorem paid_small {m : Mac} {ss : List Stp} {rs : List (List Str)} (hm : m.move ≤ 9) (hs : ss.length ≤ 1000) (hr : ∀ r ∈ rs, r.length ≤ 1000) : ∀ i, i ≤ rs.length → 0 ≤ paidL m ss rs i ∧ paidL m ss rs i ≤ (i : Int) * 10000
  | 0, _ => ⟨Int.le_refl _, Int.le_refl _⟩
  | i + 1, h => by
    obtain ⟨h1, h2⟩ := paid_small hm hs hr i (by omega)
    have a : slowS (tS m.clock ss i) (rs.getD i []) ≤ 1000 := by
      unfold slowS
      refine Nat.le_trans (List.length_filter_le _ _) ?_
      rw [List.length_map]
      exact Nat.le_trans (len_tS _ _ _) hs
    have b : (comeS (rs.getD (i - 1) []) (rs.getD i [])).length ≤ 1000 := by
      refine Nat.le_trans (List.length_filter_le _ _) ?_
      rw [List.getD_eq_getElem?_getD, List.getElem?_eq_getElem (by omega)]
      exact hr _ (List.getElem_mem (by omega))
    have c : (m.move : Int) * ((comeS (rs.getD (i - 1) []) (rs.getD i [])).length : Nat) ≤ 9000 := by
      have : m.move * (comeS (rs.getD (i - 1) []) (rs.getD i [])).length ≤ 9 * 1000 := Nat.mul_le_mul hm b
      exact_mod_cast this
    have c0 : 0 ≤ (m.move : Int) * ((comeS (rs.getD (i - 1) []) (rs.getD i [])).length : Nat) := by exact_mod_cast Nat.zero_le _
    unfold paidL
    rw [show ((i + 1 : Nat) : Int) * 10000 = (i : Int) * 10000 + 10000 by omega]
    split
    · constructor <;> omega
    · constructor <;> omega
theorem int_shows {i : Int} (h0 : 0 ≤ i) (h1 : i ≤ 10000000) : (PyData.int i).showable = true ∧ (PyData.int i).shown.length ≤ 1921 := by
  have : i.natAbs.log2 < 1920 := by
    have := Nat.log2_le_self i.natAbs
    have h2 : i.natAbs < 2 ^ 24 := by omega
    have h3 := PySem.Flt.log2_lt_of (show 0 < 24 by decide) h2
    omega
  exact ⟨decide_eq_true this, int_text_len_1921 this⟩
end Sd

/-! L04m: how much data of any kind are, and that they can be shown -/
namespace Sd
open PySem PySem.Spec PyProof.Rows L2 RZ RT LamX
/-- signs of a text are of the kind that texts are made of -/
def sgB (s : Str) : Bool := s.cps.toList.all fun c => decide (c < 16 ^ 8)
mutual
def okd (B : Nat) : PyData → Bool
  | .none => true
  | .bool _ => true
  | .int i => decide (i.natAbs < B)
  | .str s => sgB s
  | .list xs => okdA B xs
  | .tuple xs => okdA B xs
  | .dict kvs => okdK B kvs
def okdA (B : Nat) : List PyData → Bool
  | [] => true
  | x :: xs => okd B x && okdA B xs
def okdK (B : Nat) : List (PyData × PyData) → Bool
  | [] => true
  | (k, v) :: r => (okd B k && okd B v) && okdK B r
end
mutual
theorem okd_up {B C : Nat} (h : B ≤ C) : ∀ d : PyData, okd B d = true → okd C d = true
  | .none, _ => rfl
  | .bool _, _ => rfl
  | .int i, e => by
    simp only [okd, decide_eq_true_eq] at e ⊢
    omega
  | .str s, e => e
  | .list xs, e => by
    simp only [okd] at e ⊢
    exact okdA_up h xs e
  | .tuple xs, e => by
    simp only [okd] at e ⊢
    exact okdA_up h xs e
  | .dict kvs, e => by
    simp only [okd] at e ⊢
    exact okdK_up h kvs e
theorem okdA_up {B C : Nat} (h : B ≤ C) : ∀ xs : List PyData, okdA B xs = true → okdA C xs = true
  | [], _ => rfl
  | x :: xs, e => by
    simp only [okdA, Bool.and_eq_true] at e ⊢
    exact ⟨okd_up h x e.1, okdA_up h xs e.2⟩
theorem okdK_up {B C : Nat} (h : B ≤ C) : ∀ xs : List (PyData × PyData), okdK B xs = true → okdK C xs = true
  | [], _ => rfl
  | (k, v) :: xs, e => by
    simp only [okdK, Bool.and_eq_true] at e ⊢
    exact ⟨⟨okd_up h k e.1.1, okd_up h v e.1.2⟩, okdK_up h xs e.2⟩
end
mutual
def wt : PyData → Nat
  | .none => 1
  | .bool _ => 1
  | .int _ => 2
  | .str s => s.length + 1
  | .list xs => 1 + wtA xs
  | .tuple xs => 1 + wtA xs
  | .dict kvs => 1 + wtK kvs
def wtA : List PyData → Nat
  | [] => 0
  | x :: xs => wt x + wtA xs
def wtK : List (PyData × PyData) → Nat
  | [] => 0
  | (k, v) :: r => (wt k + wt v) + wtK r
end
theorem join_le {ts : List Str} : (Str.join ", " ts).length ≤ piled ts := by
  by_cases h : ts = []
  · subst h
    decide +kernel
  · have := join_length_add ts h
    omega
theorem int_showsD {i : Int} (h : i.natAbs < 10 ^ 19) : (PyData.int i).showable = true ∧ (PyData.int i).shown.length ≤ 20 := by
  have h1 : i.natAbs.log2 < 1920 := by
    have := PySem.Flt.log2_lt_of (show 0 < 64 by decide) (show i.natAbs < 2 ^ 64 by omega)
    omega
  refine ⟨decide_eq_true h1, ?_⟩
  show (PySem.Str.ofString (toString i)).length ≤ 20
  rw [PySem.ofString_length]
  exact PySem.int_text_length_le10 (k := 19) (by decide) h
mutual
theorem shows {B : Nat} (hB : B ≤ 10 ^ 19) : ∀ d : PyData, okd B d = true → d.showable = true ∧ d.shown.length + 2 ≤ 12 * wt d
  | .none, _ => ⟨rfl, by decide +kernel⟩
  | .bool b, _ => ⟨rfl, by cases b <;> decide +kernel⟩
  | .int i, h => by
    simp only [okd, decide_eq_true_eq] at h
    obtain ⟨h1, h2⟩ := int_showsD (Nat.lt_of_lt_of_le h hB)
    refine ⟨h1, ?_⟩
    simp only [wt]
    omega
  | .str s, h => by
    simp only [okd, sgB, List.all_eq_true, decide_eq_true_eq] at h
    refine ⟨rfl, ?_⟩
    have := StrLaws.reprText_len s fun c hc => h c hc
    simp only [PyData.shown, wt]
    omega
  | .list xs, h => by
    simp only [okd] at h
    obtain ⟨h1, h2⟩ := showsA hB xs h
    refine ⟨by simpa only [PyData.showable] using h1, ?_⟩
    simp only [PyData.shown, wt]
    rw [listText_eq_join, strLen_append, strLen_append]
    have e1 : ("[" : Str).length = 1 := rfl
    have e2 : ("]" : Str).length = 1 := rfl
    have := join_le (ts := PyData.shownAll xs)
    omega
  | .tuple xs, h => by
    simp only [okd] at h
    obtain ⟨h1, h2⟩ := showsA hB xs h
    refine ⟨by simpa only [PyData.showable] using h1, ?_⟩
    simp only [PyData.shown, wt]
    unfold tupleText
    rw [strLen_append, strLen_append]
    have e1 : ("(" : Str).length = 1 := rfl
    have e2 : ((if (PyData.shownAll xs).length == 1 then ",)" else ")" : String) : Str).length ≤ 2 := by
      split <;> decide +kernel
    have := join_le (ts := PyData.shownAll xs)
    omega
  | .dict kvs, h => by
    simp only [okd] at h
    obtain ⟨h1, h2⟩ := showsK hB kvs h
    refine ⟨by simpa only [PyData.showable] using h1, ?_⟩
    simp only [PyData.shown, wt]
    unfold dictText
    rw [strLen_append, strLen_append]
    have e1 : ("{" : Str).length = 1 := rfl
    have e2 : ("}" : Str).length = 1 := rfl
    have := join_le (ts := PyData.shownKv kvs)
    omega
theorem showsA {B : Nat} (hB : B ≤ 10 ^ 19) : ∀ xs : List PyData, okdA B xs = true → PyData.showableAll xs = true ∧ piled (PyData.shownAll xs) ≤ 12 * wtA xs
  | [], _ => ⟨rfl, Nat.le_refl _⟩
  | x :: xs, h => by
    simp only [okdA, Bool.and_eq_true] at h
    obtain ⟨a1, a2⟩ := shows hB x h.1
    obtain ⟨b1, b2⟩ := showsA hB xs h.2
    refine ⟨by simp only [PyData.showableAll, a1, b1, Bool.and_self], ?_⟩
    simp only [PyData.shownAll, wtA, piled_cons]
    omega
theorem showsK {B : Nat} (hB : B ≤ 10 ^ 19) : ∀ kvs : List (PyData × PyData), okdK B kvs = true → PyData.showableKv kvs = true ∧ piled (PyData.shownKv kvs) ≤ 12 * wtK kvs
  | [], _ => ⟨rfl, Nat.le_refl _⟩
  | (k, v) :: r, h => by
    simp only [okdK, Bool.and_eq_true] at h
    obtain ⟨a1, a2⟩ := shows hB k h.1.1
    obtain ⟨c1, c2⟩ := shows hB v h.1.2
    obtain ⟨b1, b2⟩ := showsK hB r h.2
    refine ⟨by simp only [PyData.showableKv, a1, b1, c1, Bool.and_self], ?_⟩
    simp only [PyData.shownKv, wtK, piled_cons]
    rw [strLen_append, strLen_append]
    have e3 : (": " : Str).length = 2 := rfl
    omega
end
/-- data that can be shown, so much and so deep at most -/
structure Sm (B w p : Nat) (d : PyData) : Prop where
  ok : okd B d = true
  wt : wt d ≤ w
  dp : d.depth ≤ p
theorem Sm.up {B C w p w' p' : Nat} {d : PyData} (h : Sm B w p d) (h1 : w ≤ w') (h2 : p ≤ p') (h0 : B ≤ C := by exact Nat.le_refl _) : Sm C w' p' d := ⟨okd_up h0 d h.ok, Nat.le_trans h.wt h1, Nat.le_trans h.dp h2⟩
theorem okdA_all {B : Nat} : ∀ {xs : List PyData}, okdA B xs = true ↔ ∀ x ∈ xs, okd B x = true
  | [] => ⟨fun _ x hx => (nomatch hx), fun _ => rfl⟩
  | x :: xs => by
    simp only [okdA, Bool.and_eq_true, okdA_all (xs := xs), List.mem_cons, forall_eq_or_imp]
theorem wtA_app : ∀ (xs ys : List PyData), wtA (xs ++ ys) = wtA xs + wtA ys
  | [], ys => by simp [wtA]
  | x :: xs, ys => by
    show wt x + wtA (xs ++ ys) = (wt x + wtA xs) + wtA ys
    rw [wtA_app xs ys]
    omega
theorem depA_le {p : Nat} : ∀ {xs : List PyData}, PyData.depthAll xs ≤ p ↔ ∀ x ∈ xs, x.depth ≤ p
  | [] => ⟨fun _ x hx => (nomatch hx), fun _ => Nat.zero_le _⟩
  | x :: xs => by
    simp only [PyData.depthAll, Nat.max_le, depA_le (xs := xs), List.mem_cons, forall_eq_or_imp]
theorem len_wtA : ∀ (xs : List PyData), xs.length ≤ wtA xs
  | [] => Nat.le_refl _
  | x :: xs => by
    have h1 := len_wtA xs
    have h2 : 1 ≤ wt x := by cases x <;> simp only [wt] <;> omega
    simp only [wtA, List.length_cons]
    omega
theorem wtA1 (d : PyData) : wtA [d] = wt d := by simp [wtA]
theorem Sm.tup1 {B w p : Nat} {d : PyData} (h : Sm B w p d) (h0 : 0 < B) : Sm B (w + 3) (p + 1) (.tuple [d]) := by
  refine ⟨by simp [okd, okdA, h.ok, h0], ?_, ?_⟩
  · have := h.wt
    simp only [Sd.wt, Sd.wtA]
    omega
  · have := h.dp
    simp only [PyData.depth, PyData.depthAll]
    omega
theorem Sm.lst1 {B w p : Nat} {d : PyData} (h : Sm B w p d) (h0 : 0 < B) : Sm B (w + 3) (p + 1) (.list [d]) := by
  refine ⟨by simp [okd, okdA, h.ok, h0], ?_, ?_⟩
  · have := h.wt
    simp only [Sd.wt, Sd.wtA]
    omega
  · have := h.dp
    simp only [PyData.depth, PyData.depthAll]
    omega
theorem Sm.two1 {B w p : Nat} {d : PyData} (h : Sm B w p d) (h0 : 0 < B) : Sm B (w + 3) (p + 1) (.tuple [d, .int 0]) := by
  refine ⟨by simp [okd, okdA, h.ok, h0], ?_, ?_⟩
  · have := h.wt
    simp only [Sd.wt, Sd.wtA]
    omega
  · have := h.dp
    simp only [PyData.depth, PyData.depthAll]
    omega
theorem Sm.dic1 {B w p : Nat} {d : PyData} (h : Sm B w p d) (h0 : 0 < B) : Sm B (w + 3) (p + 1) (.dict [(.str "a", d)]) := by
  have ha : okd B (.str "a") = true := by show sgB "a" = true; decide +kernel
  refine ⟨by show ((okd B (.str "a") && okd B d) && true) = true; rw [ha, h.ok]; rfl, ?_, ?_⟩
  · have := h.wt
    have e : ("a" : Str).length = 1 := rfl
    simp only [Sd.wt, Sd.wtK]
    omega
  · have := h.dp
    simp only [PyData.depth, PyData.depthKv]
    omega
def smB (d : PyData) : Bool := okd (10 ^ 18) d && (decide (Sd.wt d ≤ 10) && decide (d.depth ≤ 3))
theorem sm_of {d : PyData} (h : smB d = true) : Sm (10 ^ 18) 10 3 d := by
  simp only [smB, Bool.and_eq_true, decide_eq_true_eq] at h
  exact ⟨h.1, h.2.1, h.2.2⟩
end Sd

/-! N01a: integers, names, and rows of names among data of any kind -/
namespace Sd
open PySem PySem.Spec PyProof.Rows L2 RZ RT LamX
theorem isa_tup {d : PyData} : isaT "tuple" d = some d.isTuple := rfl
theorem isa_str {d : PyData} : isaT "str" d = some d.isStr := by unfold isaT; rfl
theorem isa_int {d : PyData} : isaT "int" d = some d.isInt := by unfold isaT; rfl
theorem isa_bool {d : PyData} : isaT "bool" d = some d.isBool := by unfold isaT; rfl
def rLeU2 : R2 := fun x y H Q => (rI0 fun i j => .bl (decide (i ≤ j))) x y H Q ∨ ∃ i j, x = .str i ∧ y = .str j ∧ Q (.bl (!decide (j.cps.toList < i.cps.toList))) H
theorem op_leU2 {X : Cx} : OpR X (compareOp .LtE) rLeU2 := OpR.or op_le op_le_str
/-- what tells of a thing of any kind a truth -/
def spQ (c : Wd) (f : PyData → Bool) : Sp := fun vs H Q _ => ∃ M v d, vs = [v] ∧ Rq c.K M H d v ∧ wt d ≤ 90000 ∧ ∀ H', Go [] H H' → Q (.bl (f d)) H'
def spInQ (c : Wd) : Sp := fun vs H Q _ => ∃ M v d a b, vs = [v, .int a, .int b] ∧ Rq c.K M H d v ∧ wt d ≤ 90000 ∧ ∀ H', Go [] H H' → Q (.bl (isIn a b d)) H'
theorem wt_mem : ∀ {ds : List PyData} {d : PyData}, d ∈ ds → wt d ≤ wtA ds
  | e :: ds, d, h => by
    simp only [wtA]
    rcases List.mem_cons.mp h with z | z
    · rw [z]; omega
    · have := wt_mem z
      omega
theorem wt_tup {ds : List PyData} : wt (.tuple ds) = 1 + wtA ds := rfl
theorem wt_str {s : Str} : wt (.str s) = s.length + 1 := rfl
theorem strs_inv {K : PySem.W.Frag} {M : List Addr} {H : Hp} : ∀ {zs : List Str} {xs : List V}, RqA K M H (zs.map PyData.str) xs → xs = zs.map V.str
  | [], xs, h => by simpa [RqA] using h
  | z :: zs, xs, h => by
    simp only [List.map_cons, RqA] at h
    obtain ⟨v, vs, rfl, h1, h2⟩ := h
    simp only [Rq] at h1
    rw [h1, strs_inv h2]
    rfl
theorem rq_str {K : PySem.W.Frag} {M : List Addr} {H : Hp} {s : Str} {v : V} (h : Rq K M H (.str s) v) : v = .str s := by simpa only [Rq] using h
theorem rq_int {K : PySem.W.Frag} {M : List Addr} {H : Hp} {i : Int} {v : V} (h : Rq K M H (.int i) v) : v = .int i := by simpa only [Rq] using h
section
variable {c : Wd}
theorem ok_is_integerQ (F : At c "is_integer" "is_integer" s_is_integer P_is_integer) (B : Bi c) : Ok c "is_integer" 1 P_is_integer (spQ c isInteger) := by
  refine Ok.of F sc_is_integer (fun vs H Q E h => ?_) (fun f cdv A out s H vs Q E hr h => ?_)
  · obtain ⟨M, v, d, rfl, _⟩ := h
    rfl
  · obtain ⟨M, v, d, rfl, hd, _, q⟩ := h
    refine ⟨_, (pss_one (ps_ret (pe_and (pe_callB (call_isE (K := c.K)) (by rfl) B.isinstance (by decide +kernel) (pa_cons (pv 0) (pa_cons (pe_ty "int" "int" (by rfl) B.int (by decide +kernel)) pa_nil))) (pe_one (pe_not (pe_callB (call_isE (K := c.K)) (by rfl) B.isinstance (by decide +kernel) (pa_cons (pv 0) (pa_cons (pe_ty "bool" "bool" (by rfl) B.bool (by decide +kernel)) pa_nil)))))))), ?_⟩
    refine ⟨_, rfl, r_c (r_nil ⟨M, v, d, "int", _, rfl, hd, isa_int, ⟨_, rfl, ?_⟩⟩)⟩
    have q' := q H (Go.refl _ _)
    cases d <;> first
      | exact q'
      | exact ⟨_, rfl, r_c (r_nil ⟨M, v, _, "bool", _, rfl, hd, isa_bool, ⟨_, rfl, q'⟩⟩)⟩
theorem ok_is_integer_inQ (F : At c "is_integer_in" "is_integer_in" s_is_integer_in P_is_integer_in) (B : Bi c) (D_is_integer : Ok c "is_integer" 1 P_is_integer (spQ c isInteger)) :
    Ok c "is_integer_in" 2 P_is_integer_in (spInQ c) := by
  refine Ok.of F sc_is_integer_in (fun vs H Q E h => ?_) (fun f cdv A out s H vs Q E hr h => ?_)
  · obtain ⟨M, v, d, a, b, rfl, _⟩ := h
    rfl
  · obtain ⟨M, v, d, a, b, rfl, hd, hw, q⟩ := h
    refine ⟨_, (pss_one (ps_ret (pe_and (pe_f D_is_integer (hr.mono (by omega)) (by rfl) (pa_cons (pv 0) pa_nil)) (pe_one (pe_chain op_leU2 op_leU2 (pv 1) (pv 0) (pv 2)))))), ?_⟩
    refine ⟨_, rfl, M, v, d, rfl, hd, hw, fun H' g => ⟨_, rfl, ?_⟩⟩
    have q' := q H' g
    cases d <;> first
      | exact q'
      | skip
    rename_i i
    have := rq_int hd
    subst this
    refine ⟨_, rfl, _, rfl, .inl ⟨_, _, rfl, rfl, _, rfl, ite2 (fun h1 => ⟨_, rfl, .inl ⟨_, _, rfl, rfl, ?_⟩⟩) (fun h1 => ?_)⟩⟩
    · simp only [isIn, decide_eq_true_eq] at q' h1
      simpa only [h1, decide_true, Bool.true_and] using q'
    · simp only [isIn, decide_eq_true_eq] at q' h1
      simpa only [h1, decide_false, Bool.false_and] using q'
theorem ok_is_nameQ (F : At c "is_name" "is_name" s_is_name P_is_name) (B : Bi c) (B' : Bc c) : Ok c "is_name" 1 P_is_name (spQ c isName) := by
  refine Ok.of F sc_is_name (fun vs H Q E h => ?_) (fun f cdv A out s H vs Q E hr h => ?_)
  · obtain ⟨M, v, d, rfl, _⟩ := h
    rfl
  · obtain ⟨M, v, d, rfl, hd, hw, q⟩ := h
    have hu1 := hu_of hr
    have hu5 := hr.u5
    refine ⟨_, (pss_cons (ps_if (PW.pt (pw_or (pt_not (pt_val (pe_callB (call_isE (K := c.K)) (by rfl) B.isinstance (by decide +kernel) (pa_cons (pv 0) (pa_cons (pe_ty "str" "str" (by rfl) B.str (by decide +kernel)) pa_nil))))) (pw_or1 (pt_not (pt_chain op_leU2 op_leU2 pe_int (pe_callB (call_lenU (K := c.K)) (by rfl) B.len (by decide +kernel) (pa_cons (pv 0) pa_nil)) (pe_gi B'.LONGEST_NAME)))))) (pss_one (ps_ret pe_bl)) pss_nil)
    (pss_one (ps_ret (pe_callB (call_allU (K := c.K) rfl) (by rfl) B.all (by decide +kernel) (pa_cons (pe_lc (own := [("letter", 1)]) rfl sc_is_name.nd (pi_seq (K := c.K) (pv 0)) (blkOk_by (N := N_is_name) (sc := defScope s_is_name) (by decide +kernel)) (fun _ _ _ _ _ => (pg_name (i := 1) sc_is_name.nd rfl (by first | exact Or.inl rfl | exact Or.inr rfl))) (fun _ _ _ _ _ => pts_nil) (fun _ _ _ _ _ => (pe_cmpR (op_inU (K := c.K) hu5) (pv 1) (pe_gs B'.LETTERS) (by rfl)))) pa_nil))))), ?_⟩
    refine ⟨_, rfl, r_c (r_nil ⟨M, v, d, "str", _, rfl, hd, isa_str, ⟨_, rfl, ?_⟩⟩)⟩
    have q' := q H (Go.refl _ _)
    cases d <;> first
      | exact q'
      | skip
    rename_i x
    have := rq_str hd
    subst this
    rw [wt_str] at hw
    have hx : x.length ≤ sizeLine := by rw [sizeLine_eq]; omega
    refine ⟨_, rfl, r_nil (r_lenS hx (.inl ⟨_, _, rfl, rfl, _, rfl, ite2 (fun h1 => .inl ⟨_, _, rfl, rfl, _, rfl, ite2 (fun h2 => ?_) (fun h2 => ?_)⟩) (fun h1 => ⟨_, rfl, ?_⟩)⟩))⟩
    · have e : isName (.str x) = false := by
        have h2' : ¬ x.length ≤ 8 := by
          simp at h2
          omega
        simp [isName, isNameS, h2']
      rw [e] at q'
      exact q'
    · have e1 : 1 ≤ x.length := by
        have : (1 : Int) ≤ ((x.length : Nat) : Int) := by simpa using h1
        omega
      have e2 : x.length ≤ 8 := by
        simp at h2
        omega
      refine .inr ⟨_, rfl, x, rfl, fun D hD => lc_map walk_sg [] (fun _ _ => True) (fun i y _ => ∃ k, x.cps[i]? = some k ∧ y = .bl (decide (k ∈ lettersZ.cps.toList))) yk_sg
        (show x.length ≤ 100000 by omega) hD (fun _ h => nomatch h) (fun _ _ => trivial) trivial (fun _ _ _ _ _ => trivial) (fun _ _ _ _ _ _ h => h) ?_ ?_⟩
      · rintro i y H1 H2 Fin hi g1 gy _ ⟨rfl, k, hk, rfl⟩ fin
        exact ⟨rfl, _, rfl, r_c (r_inSg (fin _ _ (Go.refl _ _) trivial ⟨k, hk, rfl⟩))⟩
      · intro H1 ys g1 _ hD1 hl hr'
        have ey : ys = (x.cps.toList.map fun k => decide (k ∈ lettersZ.cps.toList)).map V.bl := by
          rw [List.map_map]
          refine list_of (by simpa using hl) fun i y e => ?_
          obtain ⟨k, h1, h2⟩ := hr' i y e
          exact ⟨k, by simpa using h1, h2⟩
        subst ey
        refine r_nil (r_all (SqL.of hD1) ?_)
        have e : isName (.str x) = (x.cps.toList.map fun k => decide (k ∈ lettersZ.cps.toList)).all id := by
          simp [isName, isNameS, e1, e2, List.all_map]
        have q2 := q H1 g1
        rw [e] at q2
        exact q2
    · have e : isName (.str x) = false := by
        have h1' : ¬ 1 ≤ x.length := fun z => h1 (by simp; omega)
        simp [isName, isNameS, h1']
      rw [e] at q'
      exact q'
theorem ok_are_ascending_namesQ (F : At c "are_ascending_names" "are_ascending_names" s_are_ascending_names P_are_ascending_names) (B : Bi c) (D_is_name : Ok c "is_name" 1 P_is_name (spQ c isName))
    (D_is_ascending : Ok c "is_ascending" 1 P_is_ascending (spAsc c)) : Ok c "are_ascending_names" 2 P_are_ascending_names (spQ c ascNames) := by
  refine Ok.of F sc_are_ascending_names (fun vs H Q E h => ?_) (fun f cdv A out s H vs Q E hr h => ?_)
  · obtain ⟨M, v, d, rfl, _⟩ := h
    rfl
  · obtain ⟨M, v, d, rfl, hd, hw, q⟩ := h
    refine ⟨_, (pss_one (ps_ret (pe_and (pe_callB (call_isE (K := c.K)) (by rfl) B.isinstance (by decide +kernel) (pa_cons (pv 0) (pa_cons (pe_ty "tuple" "tuple" (by rfl) B.tuple (by decide +kernel)) pa_nil))) (pe_and (pe_callB (call_allU (K := c.K) rfl) (by rfl) B.all (by decide +kernel) (pa_cons (pe_lc (own := [("name", 1)]) rfl sc_are_ascending_names.nd (pi_seq (K := c.K) (pv 0)) (blkOk_by (N := N_are_ascending_names) (sc := defScope s_are_ascending_names) (by decide +kernel)) (fun _ _ _ _ _ => (pg_name (i := 1) sc_are_ascending_names.nd rfl (by first | exact Or.inl rfl | exact Or.inr rfl))) (fun _ _ _ _ _ => pts_nil) (fun _ _ _ _ _ => (pe_f D_is_name (hr.mono (by omega)) (by rfl) (pa_cons (pv 1) pa_nil)))) pa_nil)) (pe_one (pe_f D_is_ascending (hr.mono (by omega)) (by rfl) (pa_cons (pv 0) pa_nil))))))), ?_⟩
    refine ⟨_, rfl, r_c (r_nil ⟨M, v, d, "tuple", _, rfl, hd, isa_tup, ⟨_, rfl, ?_⟩⟩)⟩
    have q' := q H (Go.refl _ _)
    cases d <;> first
      | exact q'
      | skip
    rename_i ds
    simp only [Rq] at hd
    obtain ⟨a, xs, rfl, hs, hA⟩ := hd
    rw [wt_tup] at hw
    have hlen := hA.len
    have hdl := len_wtA ds
    refine .inl (.inr ⟨_, rfl, a, rfl, ⟨xs, hs⟩, fun D hD => ?_⟩)
    refine lc_map (walk_tup (xs := xs)) [] (fun _ _ => True) (fun i y _ => ∃ p, ds[i]? = some p ∧ y = .bl (isName p)) yk_at
      (by omega) hD (fun _ h => nomatch h) (fun H' g => g.sqT hs) trivial (fun _ _ _ _ _ => trivial) (fun _ _ _ _ _ _ h => h) ?_ ?_
    · rintro i y H2 H3 Fin hi g2 g3 _ ⟨rfl, hx⟩ fin
      obtain ⟨p, hp, hdp⟩ := RqA.at hA hx
      have hpw := wt_mem (List.mem_of_getElem? hp)
      refine ⟨rfl, _, rfl, ?_⟩
      exact ⟨M, y, p, rfl, Rq.go g2.wide _ _ hdp, by omega, fun H' g => fin _ _ g trivial ⟨p, hp, rfl⟩⟩
    · intro H2 ys g2 _ hD2 hl hr'
      have ey : ys = (ds.map isName).map V.bl := by
        rw [List.map_map]
        exact list_of (by omega) fun i y e => hr' i y e
      subst ey
      refine r_nil (r_all (SqL.of hD2) ⟨_, rfl, ?_⟩)
      have q2 := q H2 g2
      by_cases hn : ds.all isName = true
      · have e1 : (ds.map isName).all id = true := by simpa [List.all_map] using hn
        rw [e1]
        refine iteT ?_
        have e2 := strs_of_names hn
        have hs2 : SqT c.K H2 a ((strsOf ds).map V.str) := by
          have : xs = (strsOf ds).map V.str := strs_inv (e2 ▸ hA)
          rw [← this]
          exact g2.sqT hs
        have hl2 : (strsOf ds).length = ds.length := by
          have := congrArg List.length e2
          simpa using this.symm
        refine ⟨_, rfl, a, strsOf ds, rfl, hs2, by omega, fun H' g => ?_⟩
        have q3 := q H' (g2.trans g)
        simp only [ascNames, hn, Bool.true_and] at q3
        exact q3
      · have e1 : (ds.map isName).all id = false := by simpa [List.all_map] using hn
        have e3 : ds.all isName = false := by simpa using hn
        rw [e1]
        simp only [ascNames, e3, Bool.false_and] at q2
        exact iteF q2
end
end Sd

namespace Sd
open PySem PySem.Spec PyProof.Rows L2 LamX

mutual
/-- all its texts are of signs that there are, and no tuple or list of it has more than so many items -/
def txB (n : Nat) : PyData → Bool
  | .str z => PyData.strOk z
  | .tuple ds => decide (ds.length ≤ n) && txA n ds
  | .list ds => decide (ds.length ≤ n) && txA n ds
  | .dict kvs => txK n kvs
  | _ => true
def txA (n : Nat) : List PyData → Bool
  | [] => true
  | d :: ds => txB n d && txA n ds
def txK (n : Nat) : List (PyData × PyData) → Bool
  | [] => true
  | (k, d) :: ds => txB n k && (txB n d && txK n ds)
end
theorem txA_all {n : Nat} : ∀ {ds : List PyData}, txA n ds = true ↔ ∀ d ∈ ds, txB n d = true
  | [] => ⟨fun _ d h => (nomatch h), fun _ => rfl⟩
  | d :: ds => by
    simp only [txA, Bool.and_eq_true, txA_all (ds := ds), List.mem_cons, forall_eq_or_imp]
theorem tx_tup {n : Nat} {ds : List PyData} (l : ds.length ≤ n) (h : ∀ d ∈ ds, txB n d = true) : txB n (.tuple ds) = true ∧ txB n (.list ds) = true := by
  have e : (decide (ds.length ≤ n) && txA n ds) = true := by rw [decide_eq_true l, txA_all.mpr h]; rfl
  exact ⟨e, e⟩
theorem tx_of {n : Nat} {ds : List PyData} (h : txB n (.tuple ds) = true) : ds.length ≤ n ∧ ∀ d ∈ ds, txB n d = true := by
  have h' : (decide (ds.length ≤ n) && txA n ds) = true := h
  simp only [Bool.and_eq_true, decide_eq_true_eq] at h'
  exact ⟨h'.1, txA_all.mp h'.2⟩
mutual
theorem tx_up {n m : Nat} (l : n ≤ m) : ∀ d : PyData, txB n d = true → txB m d = true
  | .str z, h => h
  | .tuple ds, h => by
    simp only [txB, Bool.and_eq_true, decide_eq_true_eq] at h ⊢
    exact ⟨by omega, txA_up l ds h.2⟩
  | .list ds, h => by
    simp only [txB, Bool.and_eq_true, decide_eq_true_eq] at h ⊢
    exact ⟨by omega, txA_up l ds h.2⟩
  | .dict kvs, h => by
    simp only [txB] at h ⊢
    exact txK_up l kvs h
  | .none, _ => rfl
  | .bool _, _ => rfl
  | .int _, _ => rfl
theorem txA_up {n m : Nat} (l : n ≤ m) : ∀ ds : List PyData, txA n ds = true → txA m ds = true
  | [], _ => rfl
  | d :: ds, h => by
    simp only [txA, Bool.and_eq_true] at h ⊢
    exact ⟨tx_up l d h.1, txA_up l ds h.2⟩
theorem txK_up {n m : Nat} (l : n ≤ m) : ∀ ds : List (PyData × PyData), txK n ds = true → txK m ds = true
  | [], _ => rfl
  | (k, d) :: ds, h => by
    simp only [txK, Bool.and_eq_true] at h ⊢
    exact ⟨tx_up l k h.1, tx_up l d h.2.1, txK_up l ds h.2.2⟩
end
/-- a drawn thing -/
def spOdd (c : Wd) : Sp := fun vs H Q _ => ∃ (p : Addr) (n : Nat) (M : List Addr), vs = [.ref p] ∧ Pot H p n ∧ n ≤ 2 ^ 29 ∧ p ∈ M ∧ (∀ a ∈ M, H a ≠ none) ∧
  ∀ (v : V) (d : PyData) (H' : Hp), Go [p] H H' → Pot H' p (n + 20) → Rq c.K M H' d v → Sm (10 ^ 18) 60 18 d → txB 20 d = true → Q v H'
def odd1 : List PyData := [.none, .bool true, .bool false, .int 0, .int 1, .int (-1), .int 7, .str "", .str "a", .str "p", .str "A", .str "pp", .tuple [], .list [], .dict [], .tuple [.str "a"], .tuple [.str "p"], .tuple [.tuple [.str "p"]], .list [.tuple [.str "p"]]]
def odd2 : List PyData := [.tuple [.str "p", .str "q"], .tuple [.str "q", .str "p"], .list [.str "a"], .dict [(.str "a", .int 1)], .tuple [.int 0], .tuple [.none], .tuple [.tuple []], .int (10 ^ 17)]
theorem odd_tx : (odd1 ++ odd2).all (txB 20) = true := by decide +kernel
theorem odd_sz : (odd1 ++ odd2).all smB = true := by decide +kernel
section
variable {K : PySem.W.Frag} {M0 : List Addr} {H0 : Hp} {σ : L2.St}
theorem u_seq {t u : TS} {D : Ends} {H : Hp} (h : t { D with nx := u D } σ H) : tSeq t u D σ H := h
theorem u_asg {te : TE} {g : TG} {D : Ends} {H : Hp} (h : te σ H fun x H1 => g x σ H1 D.nx) : tAsg te g D σ H := h
theorem gr_neg {i : Int} :  Gr K M0 H0 σ (tUn (rU fun i => .int (-i)) (tC (.int i))) (.int (-i)) := fun M H Q _ _ q => ⟨i, rfl, q _ H (Go.refl _ _) (by simp only [Rq])⟩
theorem gr_pow :  Gr K M0 H0 σ (tOp rPowU (tC (.int 10)) (tC (.int 17))) (.int (10 ^ 17)) := fun M H Q _ _ q => ⟨10, 17, rfl, rfl, ⟨by decide, by decide +kernel⟩, q _ H (Go.refl _ _) (by simp only [Rq]; rfl)⟩
theorem use_grA {ta : TA} {ds : List PyData} {M : List Addr} {H : Hp} {Q : List V → Hp → Prop} (h : GrA K M0 H0 σ ta ds) (hM : ∀ a ∈ M, H a ≠ none ∧ (a ∈ M0 ∨ H0 a = none)) (g : Go [] H0 H) (q : ∀ vs H', Go [] H H' → RqA K M H' ds vs → Q vs H') : ta σ H Q := h M H Q hM g q
theorem use_lst {ta : TA} {ds : List PyData} {M : List Addr} {H : Hp} {Q : VK} (h : GrA K M0 H0 σ ta ds) (hl : ds.length ≤ 1000) (hM : ∀ a ∈ M, H a ≠ none ∧ (a ∈ M0 ∨ H0 a = none)) (g : Go [] H0 H) (q : ∀ vs H' l, Go [] H H' → RqA K M H' ds vs → H' l = none → Q (.ref l) (upd H' l (.lst vs))) : tLstS ta σ H Q :=
  h M H _ hM g fun vs H1 g1 r1 => ⟨by rw [r1.len, sizeLine_eq]; omega, fun l hl1 _ => q vs H1 l g1 r1 hl1⟩
theorem potM {H H' : Hp} {p : Addr} {M : List Addr} (g : Go [p] H H') (hp : ∃ n, Pot H' p n) (hM : ∀ a ∈ M, H a ≠ none) : ∀ a ∈ M, H' a ≠ none := fun a ha e => by
  by_cases z : a = p
  · obtain ⟨n, x, b, k, h1, _⟩ := hp
    rw [z, h1] at e
    cases e
  · exact hM a ha (g.free (by simpa using z) e)
end
section
variable {c : Wd}
/-- _law_of(pot, [..]) -/
theorem of_run {σ : L2.St} {H : Hp} {Q : VK} {p : Addr} {n : Nat} {M : List Addr} {ta : TA} {ds : List PyData} (e : σ[0]? = some (some (.ref p))) (hp : Pot H p n) (hn : n ≤ 2 ^ 30) (h : GrA c.K M H σ ta ds) (h0 : ds ≠ []) (hl : ds.length ≤ 1000) (hpM : p ∈ M) (hM : ∀ a ∈ M, H a ≠ none)
    (q : ∀ (r : Nat) (v : V) (d : PyData) (H' : Hp), ds[r]? = some d → Go [p] H H' → Pot H' p (n + 1) → Rq c.K M H' d v → Q v H') : tCall (spDrawn c) [] E0 (tCons (tVar 0) (tCons (tLstS ta) tNil)) σ H Q := by
  refine ⟨_, e, use_lst (K := c.K) h hl (fun a ha => ⟨hM a ha, .inl ha⟩) (Go.refl _ _) fun vs H1 l g1 r1 hl1 => ?_⟩
  have hp1 : Pot H1 p n := hp.go g1
  have g2 : Go [] H1 (upd H1 l (.lst vs)) := Go.new hl1
  have hlp : l ≠ p := fun z => by
    obtain ⟨a, b, k, z1, _⟩ := hp1
    rw [← z, hl1] at z1
    cases z1
  refine ⟨p, l, n, vs, rfl, hp1.go g2, hn, fun z => h0 (by rw [z] at r1; have := r1.len; simp at this; exact List.length_eq_zero_iff.mp this.symm), by rw [r1.len]; omega, .inl ⟨hlp, upd_same⟩, fun r v H' hv g3 hp3 => ?_⟩
  obtain ⟨d, hd, rv⟩ := RqA.at r1 hv
  exact q r v d H' hd ((g1.trans g2).wide.trans g3) hp3 (Rq.go (g3.mono fun b hb => by rw [List.mem_singleton.mp hb]; exact hpM) d v (Rq.go g2.wide d v rv))
abbrev s__law_odd : Stmt := topS 62
abbrev N__law_odd : List Str := ["_law_pot", "_law_some", "_law_found", "_law_turn"]
abbrev P__law_odd : List Str := ["_law_pot"]
theorem sc__law_odd : FnScope N__law_odd P__law_odd (defScope s__law_odd) := ⟨rfl, rfl, rfl, by decide +kernel, rfl, by decide +kernel, by decide +kernel⟩
theorem ok_odd (F : At c "_law_odd" "_law_odd" s__law_odd P__law_odd) (B : Bi c) (D__law_of : Ok c "_law_of" 2 P__law_of (spDrawn c)) : Ok c "_law_odd" 3 P__law_odd (spOdd c) := by
  refine Ok.of F sc__law_odd (fun vs H Q E h => ?_) (fun f cdv A out s H vs Q E hr h => ?_)
  · obtain ⟨p, n, M, rfl, _⟩ := h
    rfl
  · obtain ⟨p, n, M, rfl, hp, hn, hpM, hM, q⟩ := h
    have hu1 := hu_of hr
    have hu := hr.units
    refine ⟨_, (pss_cons (ps_set (i := 1) sc__law_odd.nd rfl (by first | exact Or.inl rfl | exact Or.inr rfl) (pe_lstS (pa_cons pe_non (pa_cons pe_bl (pa_cons pe_bl (pa_cons pe_int (pa_cons pe_int (pa_cons (pe_un un_neg pe_int) (pa_cons pe_int (pa_cons pe_str (pa_cons pe_str (pa_cons pe_str (pa_cons pe_str (pa_cons pe_str (pa_cons (pe_tup pa_nil) (pa_cons (pe_lstS pa_nil) (pa_cons pe_dnewK (pa_cons (pe_tup (pa_cons pe_str pa_nil)) (pa_cons (pe_tup (pa_cons pe_str pa_nil)) (pa_cons (pe_tup (pa_cons (pe_tup (pa_cons pe_str pa_nil)) pa_nil)) (pa_cons (pe_lstS (pa_cons (pe_tup (pa_cons pe_str pa_nil)) pa_nil)) pa_nil)))))))))))))))))))))
    (pss_cons (ps_set (i := 2) sc__law_odd.nd rfl (by first | exact Or.inl rfl | exact Or.inr rfl) (pe_f D__law_of (hr.mono (by decide)) (by rfl) (pa_cons (pv 0) (pa_cons (pe_op (op_addU (K := c.K)) (pv 1) (pe_lstS (pa_cons (pe_tup (pa_cons pe_str (pa_cons pe_str pa_nil))) (pa_cons (pe_tup (pa_cons pe_str (pa_cons pe_str pa_nil))) (pa_cons (pe_lstS (pa_cons pe_str pa_nil)) (pa_cons (pe_disp (pps_cons pe_str pe_int pps_nil) (by rfl) (by rfl) (fun z => by cases z) (by decide)) (pa_cons (pe_tup (pa_cons pe_int pa_nil)) (pa_cons (pe_tup (pa_cons pe_non pa_nil)) (pa_cons (pe_tup (pa_cons (pe_tup pa_nil) pa_nil)) (pa_cons (pe_op op_powU pe_int pe_int) pa_nil)))))))))) pa_nil))))
    (pss_cons (ps_for PassesOwn.never rfl (pi_range1 (by rfl) B.range (pa_cons (pe_f D__law_of (hr.mono (by decide)) (by rfl) (pa_cons (pv 0) (pa_cons (pe_lstS (pa_cons pe_int (pa_cons pe_int (pa_cons pe_int (pa_cons pe_int (pa_cons pe_int (pa_cons pe_int (pa_cons pe_int pa_nil)))))))) pa_nil))) pa_nil)) (pg_name (i := 3) sc__law_odd.nd rfl (by first | exact Or.inl rfl | exact Or.inr rfl)) (pss_one (ps_set (i := 2) sc__law_odd.nd rfl (by first | exact Or.inl rfl | exact Or.inr rfl) (pe_f D__law_of (hr.mono (by decide)) (by rfl) (pa_cons (pv 0) (pa_cons (pe_lstS (pa_cons (pe_tup (pa_cons (pv 2) pa_nil)) (pa_cons (pe_lstS (pa_cons (pv 2) pa_nil)) (pa_cons (pe_disp (pps_cons pe_str (pv 2) pps_nil) (by rfl) (by rfl) (fun z => by cases z) (by decide)) pa_nil)))) pa_nil))))))
    (pss_one (ps_ret (pv 2)))))), ?_⟩
    have hpM1 : ∀ b ∈ [p], b ∈ M := fun b hb => by rw [List.mem_singleton.mp hb]; exact hpM
    -- the menu
    refine u_seq (u_asg (use_lst (K := c.K) (M := M) (M0 := M) (H0 := H) (ds := odd1) ?_ (by decide) (fun a ha => ⟨hM a ha, .inl ha⟩) (Go.refl _ _) fun xs1 H1 l1 g1 r1 hl1 => ?_))
    · repeat' first | exact grA_nil | exact gr_non | exact gr_bl | exact gr_int | exact gr_str | exact gr_neg | exact gr_pow | exact gr_d0 | refine grA_cons ?_ ?_ | refine gr_tup ?_ (by decide) | refine gr_lst ?_ (by decide) | refine gr_d1 ?_
    have g2 : Go [] H1 (upd H1 l1 (.lst xs1)) := Go.new hl1
    have h2 : (upd H1 l1 (.lst xs1)) l1 = some (.lst xs1) := upd_same
    have g12 := g1.trans g2
    generalize upd H1 l1 (.lst xs1) = H2 at g2 h2 g12
    have r2 : RqA c.K M H2 odd1 xs1 := RqA.go g2.wide _ _ r1
    refine ⟨_, rfl, _, rfl, ?_⟩
    refine use_lst (K := c.K) (M := M) (M0 := M) (H0 := H2) (ds := odd2) ?_ (by decide) (fun a ha => ⟨notM hM g12 a ha, .inl ha⟩) (Go.refl _ _) fun xs2 H3 l2 g3 r3 hl2 => ?_
    · repeat' first | exact grA_nil | exact gr_non | exact gr_bl | exact gr_int | exact gr_str | exact gr_neg | exact gr_pow | exact gr_d0 | refine grA_cons ?_ ?_ | refine gr_tup ?_ (by decide) | refine gr_lst ?_ (by decide) | refine gr_d1 ?_
    have g4 : Go [] H3 (upd H3 l2 (.lst xs2)) := Go.new hl2
    have h4 : (upd H3 l2 (.lst xs2)) l2 = some (.lst xs2) := upd_same
    have g34 := g3.trans g4
    generalize upd H3 l2 (.lst xs2) = H4 at g4 h4 g34
    have r4 : RqA c.K M H4 (odd1 ++ odd2) (xs1 ++ xs2) := (RqA.go g34.wide _ _ r2).app (RqA.go g4.wide _ _ r3)
    have hlen : (xs1 ++ xs2).length = 27 := r4.len
    refine .inr (.inl ⟨l1, l2, xs1, xs2, rfl, rfl, g34.old _ _ (by simp) h2, h4, by rw [← List.length_append, hlen]; decide, fun l3 hl3 => ?_⟩)
    have g5 : Go [] H4 (upd H4 l3 (.lst (xs1 ++ xs2))) := Go.new hl3
    have h5 : (upd H4 l3 (.lst (xs1 ++ xs2))) l3 = some (.lst (xs1 ++ xs2)) := upd_same
    generalize upd H4 l3 (.lst (xs1 ++ xs2)) = H5 at g5 h5
    have g05 : Go [] H H5 := (g12.trans g34).trans g5
    have hp5 : Pot H5 p n := hp.go g05
    have hlp : l3 ≠ p := fun z => by
      obtain ⟨a, b, k, z1, _⟩ := hp.go (g12.trans g34)
      rw [← z, hl3] at z1
      cases z1
    refine ⟨p, l3, n, xs1 ++ xs2, rfl, hp5, by omega, fun z => (by rw [z] at hlen; cases hlen), (by rw [hlen]; decide), .inl ⟨hlp, h5⟩, fun r v H6 hv g6 hp6 => ?_⟩
    obtain ⟨d, hd, rv⟩ := RqA.at r4 hv
    have rv6 : Rq c.K M H6 d v := Rq.go (g6.mono hpM1) d v (Rq.go g5.wide d v rv)
    have hsz : Sm (10 ^ 18) 10 3 d := sm_of (List.all_eq_true.mp odd_sz d (List.mem_of_getElem? hd))
    have htx : txB 20 d = true := List.all_eq_true.mp odd_tx d (List.mem_of_getElem? hd)
    have g06 : Go [p] H H6 := g05.wide.trans g6
    have hM6 := potM g06 ⟨_, hp6⟩ hM
    -- how often
    refine of_run (ds := [.int 0, .int 0, .int 0, .int 0, .int 1, .int 2, .int 9]) (M := M) rfl hp6 (by omega) ?_ (by simp) (by decide) hpM hM6 fun r2 v2 d2 H7 hd2 g7 hp7 rv7 => ?_
    · repeat' first | exact grA_nil | exact gr_int | refine grA_cons ?_ ?_
    obtain ⟨j, rfl, hj⟩ : ∃ j : Nat, v2 = .int (j : Int) ∧ j ≤ 9 := by
      rcases r2 with _ | _ | _ | _ | _ | _ | _ | r2
      all_goals first
        | (have e : _ = d2 := Option.some.inj hd2
           subst e
           simp only [Rq] at rv7
           first
             | exact ⟨0, rv7, by decide⟩
             | exact ⟨1, rv7, by decide⟩
             | exact ⟨2, rv7, by decide⟩
             | exact ⟨9, rv7, by decide⟩)
        | (simp at hd2)
    refine ⟨(j : Int), rfl, by omega, by omega, for_range (lo := 0) (n := (j : Int).toNat) (fun i σ H' => ∃ (v : V) (d : PyData) (o : Option V), σ = [some (.ref p), some (.ref l1), some v, o] ∧ Go [p] H H' ∧ Pot H' p (n + 2 + i) ∧ Rq c.K M H' d v ∧ Sm (10 ^ 18) (10 + 3 * i) (3 + i) d ∧ txB 20 d = true)
      ⟨v, d, none, rfl, g06.trans g7, hp7, Rq.go (g7.mono hpM1) d v rv6, hsz, htx⟩ ?_ ?_⟩
    · rintro i σ H8 hi ⟨v, d, o, rfl, g8, hp8, rv8, sz8, tx8⟩
      have hM8 := potM g8 ⟨_, hp8⟩ hM
      refine of_run (ds := [.tuple [d], .list [d], .dict [(.str "a", d)]]) (M := M) rfl hp8 (by simp at hi; omega) ?_ (by simp) (by simp) hpM hM8 fun r3 v3 d3 H9 hd3 g9 hp9 rv9 => ?_
      · repeat' first | exact grA_nil | exact gr_int | exact gr_v rfl rv8 | refine grA_cons ?_ ?_ | refine gr_tup ?_ (by simp) | refine gr_lst ?_ (by simp) | refine gr_d1 ?_
      refine ⟨v3, d3, _, rfl, g8.trans g9, hp9, rv9, ?_⟩
      rcases r3 with _ | _ | _ | r3
      · exact Option.some.inj hd3 ▸ ⟨(sz8.tup1 (by decide)).up (by omega) (by omega), (tx_tup (by simp) (by simpa using tx8)).1⟩
      · exact Option.some.inj hd3 ▸ ⟨(sz8.lst1 (by decide)).up (by omega) (by omega), (tx_tup (by simp) (by simpa using tx8)).2⟩
      · exact Option.some.inj hd3 ▸ ⟨(sz8.dic1 (by decide)).up (by omega) (by omega), by show (PyData.strOk "a" && (txB 20 d && true)) = true; rw [tx8]; decide +kernel⟩
      · simp at hd3
    · rintro σ H8 ⟨v, d, o, rfl, g8, hp8, rv8, sz8, tx8⟩
      refine ⟨_, rfl, q v d H8 g8 (hp8.up (by simp; omega)) rv8 (sz8.up (by simp; omega) (by simp; omega)) tx8⟩
end
end Sd

/-! L04b: whether data of any kind are a run -/
namespace Sd
open PySem PySem.Spec PyProof.Rows L2 RZ RT LamX
def lenD : PyData → Nat | .tuple ds => ds.length | _ => 0

theorem asc_tup {d : PyData} (h : ascNames d = true) : ∃ fs : List Str, d = namesD fs ∧ namesB fs = true := by
  cases d with
  | tuple ds =>
    simp only [ascNames, Bool.and_eq_true] at h
    have e := strs_of_names h.1
    refine ⟨strsOf ds, by rw [namesD, ← e], ?_⟩
    simp only [namesB, Bool.and_eq_true]
    refine ⟨?_, h.2⟩
    have := h.1
    rw [e, List.all_map] at this
    exact this
  | _ => exact nomatch h

theorem lenD_of {d : PyData} (h : ascNames d = true) {K : PySem.W.Frag} {M : List Addr} {H : Hp} {v : V} (hd : Rq K M H d v) : ∃ (a : Addr) (fs : List Str), v = .ref a ∧ SqT K H a (fs.map V.str) ∧ lenD d = fs.length ∧ d = namesD fs ∧ namesB fs = true := by
  obtain ⟨fs, rfl, b⟩ := asc_tup h
  have hd' := hd
  simp only [namesD, Rq] at hd'
  obtain ⟨a, xs, rfl, hs, hA⟩ := hd'
  have := strs_inv hA
  subst this
  exact ⟨a, fs, rfl, hs, by simp [lenD, namesD], rfl, b⟩
def folS (m : Mac) (a b : Str) : Bool := m.steps.any fun s => decide (s.name = a) && decide (b ∈ s.fol)
/-- the names go on from a -/
def onB (m : Mac) : Str → List PyData → Bool
  | _, [] => true
  | a, .str z :: ds => folS m a z && onB m z ds
  | _, _ :: _ => false
def name0 (m : Mac) : Str := (m.steps.map Stp.name).getD 0 Str.empty
def isRunD (m : Mac) : PyData → Bool
  | .tuple (d :: ds) => isS d (name0 m) && onB m (name0 m) ds
  | _ => false
theorem names_distinct {m : Mac} (hB : macB m = true) {i j : Nat} {s t : Stp} (h1 : m.steps[i]? = some s) (h2 : m.steps[j]? = some t) (e : s.name = t.name) : s = t := by
  simp only [macB, stepsB, Bool.and_eq_true, decide_eq_true_eq] at hB
  have nd : (m.steps.map Stp.name).Nodup := hB.1.2.2.2.1
  have a1 : (m.steps.map Stp.name)[i]? = some s.name := by rw [List.getElem?_map, h1]; rfl
  have a2 : (m.steps.map Stp.name)[j]? = some s.name := by rw [List.getElem?_map, h2, e]; rfl
  have il : i < (m.steps.map Stp.name).length := (List.getElem?_eq_some_iff.mp a1).1
  have := (List.getElem?_inj il nd).mp (a1.trans a2.symm)
  subst this
  rw [h1] at h2
  exact Option.some.inj h2
theorem fol_of {m : Mac} (hB : macB m = true) {k : Nat} {st : Stp} (hk : m.steps[k]? = some st) (z : Str) : folS m st.name z = decide (z ∈ st.fol) := by
  unfold folS
  by_cases h : z ∈ st.fol
  · rw [decide_eq_true h]
    exact List.any_eq_true.mpr ⟨st, List.mem_of_getElem? hk, by rw [decide_eq_true rfl, decide_eq_true h]; rfl⟩
  · rw [decide_eq_false h]
    refine List.any_eq_false.mpr fun s hs => ?_
    obtain ⟨j, hj⟩ := List.mem_iff_getElem?.mp hs
    by_cases e : s.name = st.name
    · rw [names_distinct hB hj hk e, decide_eq_false h]
      simp
    · rw [decide_eq_false e]
      simp
theorem fol_step {m : Mac} (hB : macB m = true) {k : Nat} {st : Stp} (hk : m.steps[k]? = some st) {z : Str} (hz : z ∈ st.fol) : ∃ (j : Nat) (s : Stp), m.steps[j]? = some s ∧ s.name = z := by
  simp only [macB, stepsB, Bool.and_eq_true, decide_eq_true_eq, List.all_eq_true] at hB
  have := hB.1.2.2.2.2 st (List.mem_of_getElem? hk) z hz
  obtain ⟨s, hs, e⟩ := List.mem_map.mp this
  obtain ⟨j, hj⟩ := List.mem_iff_getElem?.mp hs
  exact ⟨j, s, hj, e⟩
def spIsRunQ (c : Wd) (C : Addr) : Sp := fun vs H Q _ => ∃ (o : Addr) (x : V) (m : Mac) (cs : List (List Nat)) (M : List Addr) (d : PyData), vs = [.ref o, x] ∧ MacAt c.K C H o m cs ∧ macB m = true ∧ Rq c.K M H d x ∧ ∀ H', Go [] H H' → Q (.bl (isRunD m d)) H'
section
variable {c : Wd} {C : Addr}
theorem len_is_runQ : ∀ vs H Q E, spIsRunQ c C vs H Q E → vs.length = P_Machine_is_run.length := by
  rintro vs H Q E ⟨o, x, m, cs, M, d, rfl, _⟩
  rfl
theorem body_is_runQ (F : MtAt c C "is_run" "Machine.is_run" s_Machine_is_run P_Machine_is_run) (B : Bi c) (nA : ∀ f : Str, f ∈ mNames → NoAttr c.K C f) (f : Addr) (cdv : Value) (A : Around) (out : List Env) (s : Shared) (H : Hp) (vs : List V) (Q : VK) (E : XK)
    (hr : Room 2 (A.deeper (envOfC "Machine.is_run" (defScope s_Machine_is_run) s.heap.objs.size f cdv))) (h : spIsRunQ c C vs H Q E) :
    ∃ t, PSs (cxN c N_Machine_is_run "Machine.is_run" s_Machine_is_run f cdv A out s H E).nox (defBody s_Machine_is_run) t ∧ t { nx := fun _ H' => Q .non H', rt := Q } (L2.start N_Machine_is_run vs) H := by
  · obtain ⟨o, x, m, cs, M, d, rfl, hM, hB, hd, q⟩ := h
    have hu1 := hu_of hr
    have hu := hr.units
    have hu5 := hr.u5
    have hu2 : (A.deeper (envOfC "Machine.is_run" (defScope s_Machine_is_run) s.heap.objs.size f cdv)).units + 2 < cLine := by omega
    refine ⟨_, (pss_cons (ps_if (PW.pt (pw_or (pt_not (pt_val (pe_callB (call_isQ (K := c.K) (M := M)) (by rfl) B.isinstance (by decide +kernel) (pa_cons (pv 1) (pa_cons (pe_ty "tuple" "tuple" (by rfl) B.tuple (by decide +kernel)) pa_nil))))) (pw_or (pt_cmpR (op_eqU (K := c.K) hu) (pe_callB (call_lenU (K := c.K)) (by rfl) B.len (by decide +kernel) (pa_cons (pv 1) pa_nil)) pe_int (nomark _)) (pw_or1 (pt_cmpR (op_neS (K := c.K) (M := M) hu1) (pe_ixU (K := c.K) hu1 (pv 1) pe_int (fun _ _ => rfl) (fun _ _ => rfl)) (pe_ixU (K := c.K) hu1 (pe_fld (pv 0) rfl) pe_int (fun _ _ => rfl) (fun _ _ => rfl)) (nomark _)))))) (pss_one (ps_ret pe_bl)) pss_nil)
    (pss_cons (ps_set (i := 2) sc_Machine_is_run.nd rfl (by first | exact Or.inl rfl | exact Or.inr rfl) (pe_ixU (K := c.K) hu1 (pv 1) pe_int (fun _ _ => rfl) (fun _ _ => rfl)))
    (pss_cons (ps_for PassesOwn.never rfl (pi_seq (K := c.K) (pe_slice (sl_U (K := c.K)) (pv 1) (po_some pe_int) po_none)) (pg_name (i := 3) sc_Machine_is_run.nd rfl (by first | exact Or.inl rfl | exact Or.inr rfl)) (pss_cons (ps_if (pt_cmpR (op_niS (K := c.K) (M := M) hu2) (pv 3) (pe_ixU (K := c.K) hu1 (pe_fld (pv 0) rfl) (pv 2) (fun _ _ => rfl) (fun _ _ => rfl)) (by rfl)) (pss_one (ps_ret pe_bl)) pss_nil)
    (pss_one (ps_set (i := 2) sc_Machine_is_run.nd rfl (by first | exact Or.inl rfl | exact Or.inr rfl) (pv 3)))))
    (pss_one (ps_ret pe_bl))))), ?_⟩
    refine ⟨_, rfl, r_c (r_nil ⟨x, d, "tuple", _, rfl, hd, isa_tup, ⟨_, rfl, ?_⟩⟩)⟩
    by_cases ht : d.isTuple = true
    · obtain ⟨ds, rfl⟩ : ∃ ds, d = .tuple ds := by
        cases d <;> simp [PyData.isTuple] at ht
        exact ⟨_, rfl⟩
      have hd' := hd
      simp only [Rq] at hd'
      obtain ⟨r, xs, rfl, hs, hxs⟩ := hd'
      have hl := hxs.len
      refine (if_neg (by simp [PyData.isTuple])).mpr ?_
      refine ⟨_, rfl, r_nil (r_lenT hs ?_)⟩
      refine .inl ⟨rfl, _, rfl, ?_⟩
      cases ds with
      | nil =>
        have e : xs = [] := List.length_eq_zero_iff.mp hl
        subst e
        exact (if_pos rfl).mpr ((if_pos rfl).mpr (q H (Go.refl _ _)))
      | cons d0 ds =>
        have nz : ¬ (V.int (xs.length : Nat) = V.int 0) := by
          rw [hl]
          intro z
          have z' : (((d0 :: ds).length : Nat) : Int) = 0 := by simpa using z
          simp only [List.length_cons] at z'
          omega
        refine (if_neg (by rw [decide_eq_false nz]; simp)).mpr ?_
        obtain ⟨dx, fs, _, _, _, _, a6, _, _, _, _, _, _, e0, _, _, _, _, _, _, _, _, _, e10, e11, _⟩ := id hM.ex
        obtain ⟨s0, hs0⟩ : ∃ s, m.steps[0]? = some s := by
          simp only [macB, stepsB, Bool.and_eq_true, decide_eq_true_eq] at hB
          exact ⟨_, List.getElem?_eq_getElem (by omega)⟩
        have n0 : name0 m = s0.name := by
          unfold name0
          rw [List.getD_eq_getElem?_getD, List.getElem?_map, hs0]
          rfl
        obtain ⟨x0, hx0⟩ : ∃ y, xs[0]? = some y := ⟨_, List.getElem?_eq_getElem (by rw [hl]; simp)⟩
        obtain ⟨d0', hd0, hr0⟩ := RqA.at hxs hx0
        have ed : d0 = d0' := by simpa using hd0
        subst ed
        refine .inl ⟨_, rfl, ixT (i := 0) hs hx0 ?_⟩
        refine .inl ⟨_, rfl, o, C, dx, fs, _, rfl, e0, F.cls, nA _ (by decide), e10, ixT (i := 0) e11 (by rw [List.getElem?_map, List.getElem?_map, hs0]; rfl) ?_⟩
        refine ⟨d0, s0.name, hr0, rfl, _, rfl, ?_⟩
        by_cases h0 : isS d0 s0.name = true
        · refine (if_neg (by rw [h0]; simp)).mpr ?_
          have e00 := isS_eq h0
          subst e00
          simp only [Rq] at hr0
          subst hr0
          have etot : isRunD m (.tuple (.str s0.name :: ds)) = onB m s0.name ds := by
            show (isS (.str s0.name) (name0 m) && onB m (name0 m) ds) = _
            rw [n0, h0, Bool.true_and]
          rw [etot] at q
          refine .inl ⟨_, rfl, ixT (i := 0) hs hx0 ?_⟩
          refine .inl (.inr ⟨_, rfl, 1, rfl, r_slT hs fun b H1 g1 hb => ⟨b, rfl, ⟨_, hb⟩, ?_⟩⟩)
          have ec : cutV xs (some (1 : Int)) none = xs.drop 1 := cut_from 1
          rw [ec] at hb
          have hdl : (xs.drop 1).length = ds.length := by rw [List.length_drop, hl]; simp
          refine for_it (walk_tup (xs := xs.drop 1)) (fun i σ H' => Go [] H1 H' ∧ ∃ (k : Nat) (st : Stp) (z : Option V), m.steps[k]? = some st ∧ onB m st.name (ds.drop i) = onB m s0.name ds ∧ σ = [some (.ref o), some (.ref r), some (.str st.name), z]) ⟨Go.refl _ _, 0, s0, _, hs0, rfl, rfl⟩ (fun i σ H' _ h => h.1.sqT hb) ?_ ?_
          · rintro i x σ H2 H3 hi ⟨g2, k, st, z, hk, hon, rfl⟩ ⟨rfl, hx⟩
            rw [hdl] at hi
            rw [List.getElem?_drop, Nat.add_comm] at hx
            obtain ⟨d1, hd1, hr1⟩ := RqA.at hxs hx
            rw [List.getElem?_cons_succ] at hd1
            have edr : ds.drop i = d1 :: ds.drop (i + 1) := by
              rw [List.drop_eq_getElem_cons hi]
              rw [List.getElem?_eq_getElem hi] at hd1
              rw [Option.some.inj hd1]
            obtain ⟨dx', fs', dd, f', k0, k1, k2, k3⟩ := (hM.go (g1.trans g2)).fol hB hk
            have hr1' := Rq.go (M := M) ((g1.trans g2).wide) d1 x hr1
            refine ⟨_, rfl, .inr ⟨_, rfl, o, C, dx', fs', _, rfl, k0, F.cls, nA _ (by decide), k1, _, rfl, dd, _, rfl, k2, ⟨d1, f', st.fol, hr1', rfl, k3, _, rfl, ?_⟩⟩⟩
            by_cases hin : st.fol.any (isS d1) = true
            · refine (if_neg (by rw [hin]; simp)).mpr ?_
              obtain ⟨z1, hz1, hz2⟩ := List.any_eq_true.mp hin
              have e1 := isS_eq hz2
              subst e1
              simp only [Rq] at hr1
              subst hr1
              obtain ⟨j, s1, hj, hj2⟩ := fol_step hB hk hz1
              subst hj2
              refine ⟨_, rfl, g2, j, s1, _, hj, ?_, rfl⟩
              rw [← hon, edr]
              show _ = (folS m st.name s1.name && onB m s1.name (ds.drop (i + 1)))
              rw [fol_of hB hk, decide_eq_true hz1, Bool.true_and]
            · refine (if_pos (by simpa using hin)).mpr ?_
              have ef : onB m s0.name ds = false := by
                rw [← hon, edr]
                cases d1 with
                | str z1 =>
                  show (folS m st.name z1 && onB m z1 (ds.drop (i + 1))) = false
                  have : z1 ∉ st.fol := fun hz => hin (List.any_eq_true.mpr ⟨z1, hz, by simp [isS]⟩)
                  rw [fol_of hB hk, decide_eq_false this, Bool.false_and]
                | _ => rfl
              rw [ef] at q
              exact q _ (g1.trans g2)
          · rintro σ H2 ⟨g2, k, st, z, hk, hon, rfl⟩
            rw [hdl, List.drop_length] at hon
            rw [← hon] at q
            exact q _ (g1.trans g2)
        · refine (if_pos (by simpa using h0)).mpr ?_
          have ef : isRunD m (.tuple (d0 :: ds)) = false := by
            show (isS d0 (name0 m) && onB m (name0 m) ds) = false
            rw [n0]
            simp [h0]
          rw [ef] at q
          exact q H (Go.refl _ _)
    · refine (if_pos (by simpa using ht)).mpr ?_
      have ef : isRunD m d = false := by
        cases d <;> first | rfl | exact absurd rfl ht
      rw [ef] at q
      exact q H (Go.refl _ _)
theorem ok_Machine_is_runQ (F : MtAt c C "is_run" "Machine.is_run" s_Machine_is_run P_Machine_is_run) (B : Bi c) (nA : ∀ f : Str, f ∈ mNames → NoAttr c.K C f) : MtO c C "is_run" 3 P_Machine_is_run (spIsRunQ c C) :=
  mt_of F sc_Machine_is_run len_is_runQ (body_is_runQ F B nA)
theorem ok_Machine_is_runK (F : MtAt c C "is_run" "Machine.is_run" s_Machine_is_run P_Machine_is_run) (B : Bi c) (nA : ∀ f : Str, f ∈ mNames → NoAttr c.K C f) : MtK c C "is_run" "value" 3 P_Machine_is_run (spIsRunQ c C) :=
  mtk_of F sc_Machine_is_run (fun _ _ _ _ _ _ _ _ => rfl) len_is_runQ (body_is_runQ F B nA)
end
end Sd

/-! V09c: watches of any kind, told or refused -/
namespace Sd
open PySem PySem.Spec PyProof.Rows L2 RZ RT LamX
section
variable {X : Cx} {c : Wd} {x : Str} {k : Nat} {ps : List Str} {sp : Sp} {E : XK} {p pos : Pos} {e : Expr} {es : List Expr} {t : TA}
theorem pe_fE (D : Ok c x k ps sp) (hr : Room k X.A) (hx : Passes (L2.CX X.prog X.w) X E) (hg : Gl X x) (ha : PA X (e :: es) t) (hc : Of X c := by exact ⟨rfl, rfl, rfl, rfl, rfl⟩)
    (hdb : (x == ("__debug__" : Str)) = false := by decide) (he : starEach (e :: es) X.env = (false, eval e X.env) :: starEach es X.env := by rfl)
    (hpl : (backTo pos (starEach es X.env)).any (·.1) = false := by rfl) : PE X (.Call (.Name x p) (e :: es) [] pos) (tCall sp [] E t) := by
  obtain ⟨f, fd, h1, h2, h3, h4⟩ := D
  obtain ⟨c1, c2, c3, c4, c5⟩ := hc
  obtain ⟨P, w, K, mg, base⟩ := c
  dsimp only at c1 c2 c3 c4 c5
  subst c1 c2 c3 c4 c5
  exact pe_call h4 hr hg h1 h2 h3 .nil hx ha hdb he hpl
end
def strsD : PyData → List Str | .tuple ds => strsOf ds | _ => []
theorem strsD_names (fs : List Str) : strsD (namesD fs) = fs := strsOf_map fs
def pagesOfD (m : Mac) (d : PyData) : Bool := ascNames d && (strsD d).all fun z => decide (z ∈ m.pages)
def isWatchD (m : Mac) : PyData → Bool
  | .tuple ds => decide (ds.length = m.clock.length) && ds.all (pagesOfD m)
  | _ => false
def spPagesQ (c : Wd) (C : Addr) : Sp := fun vs H Q _ => ∃ (M : List Addr) (o : Addr) (x : V) (m : Mac) (cs : List (List Nat)) (d : PyData), vs = [.ref o, x] ∧ MacAt c.K C H o m cs ∧ Rq c.K M H d x ∧ wt d ≤ 90000 ∧ ∀ H', Go [] H H' → Q (.bl (pagesOfD m d)) H'
def spWatchQ (c : Wd) (C : Addr) : Sp := fun vs H Q _ => ∃ (M : List Addr) (o : Addr) (x : V) (m : Mac) (cs : List (List Nat)) (d : PyData), vs = [.ref o, x] ∧ MacAt c.K C H o m cs ∧ Rq c.K M H d x ∧ wt d ≤ 90000 ∧ ∀ H', Go [] H H' → Q (.bl (isWatchD m d)) H'
def spCheckQ (c : Wd) (C CW : Addr) : Sp := fun vs H Q E => ∃ (M : List Addr) (o : Addr) (x : V) (m : Mac) (cs : List (List Nat)) (d : PyData), vs = [.ref o, x] ∧ MacAt c.K C H o m cs ∧ Rq c.K M H d x ∧ wt d ≤ 90000 ∧
  (isWatchD m d = true → ∀ H', Go [] H H' → Q .non H') ∧ (isWatchD m d = false → ∀ H' dd, Go [] H H' → H' dd = none → E (.ref CW) (some dd) (upd H' dd (exd dd [("value", x)])))
section
variable {c : Wd} {C CW : Addr}
theorem ok_are_pages_ofQ (F : At c "are_pages_of" "are_pages_of" s_are_pages_of P_are_pages_of) (B : Bi c) (D_Machine_pages : PrO c C "pages" 1 P_Machine_pages (spGet C "_pages")) (D_are_ascending_names : Ok c "are_ascending_names" 2 P_are_ascending_names (spQ c ascNames)) :
    Ok c "are_pages_of" 3 P_are_pages_of (spPagesQ c C) := by
  refine Ok.of F sc_are_pages_of (fun vs H Q E h => ?_) (fun f cdv A out s H vs Q E hr h => ?_)
  · obtain ⟨M, o, x, m, cs, d, rfl, _⟩ := h
    rfl
  · obtain ⟨M, o, x, m, cs, d, rfl, hM, hd, hw, q⟩ := h
    have hu5 := hr.u5
    refine ⟨_, (pss_one (ps_ret (pe_and (pe_f D_are_ascending_names (hr.mono (by omega)) (by rfl) (pa_cons (pv 1) pa_nil)) (pe_one (pe_callB (call_allU (K := c.K) rfl) (by rfl) B.all (by decide +kernel) (pa_cons (pe_lc (own := [("page", 2)]) rfl sc_are_pages_of.nd (pi_seq (K := c.K) (pv 1)) (blkOk_by (N := N_are_pages_of) (sc := defScope s_are_pages_of) (by decide +kernel)) (fun _ _ _ _ _ => (pg_name (i := 2) sc_are_pages_of.nd rfl (by first | exact Or.inl rfl | exact Or.inr rfl))) (fun _ _ _ _ _ => pts_nil) (fun _ _ _ _ _ => (pe_cmpR (op_inU (K := c.K) hu5) (pv 2) (pe_prO D_Machine_pages (hr.mono (by omega)) (pv 0)) (by rfl)))) pa_nil)))))), ?_⟩
    refine ⟨_, rfl, M, x, d, rfl, hd, hw, fun H1 g1 => ⟨_, rfl, ?_⟩⟩
    by_cases ha : ascNames d = true
    · rw [ha]
      refine (if_pos rfl).mpr ?_
      obtain ⟨b, fs, rfl, hb, _, rfl, hn⟩ := lenD_of ha hd
      have hb1 := g1.sqT hb
      have hlen : (fs.map V.str).length = fs.length := by simp
      have hl9 : fs.length ≤ 90000 := by
        have h1 := len_wtA (fs.map PyData.str)
        have h2 : wt (namesD fs) = 1 + wtA (fs.map PyData.str) := rfl
        rw [List.length_map] at h1
        omega
      have hM1 := hM.go g1
      refine .inl (.inr ⟨_, rfl, b, rfl, ⟨_, hb1⟩, fun D hD => ?_⟩)
      refine lc_map (walk_tup (xs := fs.map V.str)) [] (fun _ _ => True) (fun i y _ => ∃ w : Str, fs[i]? = some w ∧ y = .bl (decide (w ∈ m.pages))) yk_at
        (by omega) hD (fun _ h => nomatch h) (fun H' g => g.sqT hb1) trivial (fun _ _ _ _ _ => trivial) (fun _ _ _ _ _ _ h => h) ?_ ?_
      · rintro i y H2 H3 Fin hi g2 g3 _ ⟨rfl, hx⟩ fin
        have hx' : ∃ p, fs[i]? = some p ∧ y = .str p := by
          simp only [List.getElem?_map] at hx
          cases h : fs[i]? with
          | none => simp [h] at hx
          | some p => exact ⟨p, rfl, by simpa [h] using hx.symm⟩
        obtain ⟨p, hp, rfl⟩ := hx'
        obtain ⟨dx, fds, _, _, a3, _, _, _, _, _, _, _, _, e0, _, _, _, _, e5, e6, _⟩ := (hM1.go g2).ex
        refine ⟨rfl, _, rfl, _, rfl, o, dx, fds, rfl, e0, o, dx, fds, _, rfl, e0, e5, r_inT e6 rfl (flat_strs _) ?_⟩
        rw [inV_strs]
        exact fin _ _ (Go.refl _ _) trivial ⟨p, hp, rfl⟩
      · intro H2 ys g2 _ hD2 hl2 hr'
        have ey : ys = (fs.map fun w => decide (w ∈ m.pages)).map V.bl := by
          rw [List.map_map]
          exact list_of (by omega) fun i y e => by obtain ⟨s, h, h'⟩ := hr' i y e; exact ⟨s, h, h'⟩
        subst ey
        refine r_nil (r_all (SqL.of hD2) ?_)
        have q2 := q H2 (g1.trans g2)
        have e : pagesOfD m (namesD fs) = (fs.map fun w => decide (w ∈ m.pages)).all id := by
          unfold pagesOfD
          rw [ha, Bool.true_and, List.all_map, strsD_names]
          rfl
        rw [e] at q2
        exact q2
    · have ha' : ascNames d = false := by simpa using ha
      rw [ha']
      refine (if_neg (by simp)).mpr ?_
      have q2 := q H1 g1
      have e : pagesOfD m d = false := by
        unfold pagesOfD
        rw [ha', Bool.false_and]
      rw [e] at q2
      exact q2
theorem ok_is_watchQ (F : At c "is_watch" "is_watch" s_is_watch P_is_watch) (B : Bi c) (D_Machine_clock : PrO c C "clock" 1 P_Machine_clock (spGet C "_clock")) (D_are_pages_of : Ok c "are_pages_of" 3 P_are_pages_of (spPagesQ c C)) : Ok c "is_watch" 4 P_is_watch (spWatchQ c C) := by
  refine Ok.of F sc_is_watch (fun vs H Q E h => ?_) (fun f cdv A out s H vs Q E hr h => ?_)
  · obtain ⟨M, o, x, m, cs, d, rfl, _⟩ := h
    rfl
  · obtain ⟨M, o, x, m, cs, d, rfl, hM, hd, hw, q⟩ := h
    have hu1 := hu_of hr
    have hu := hr.units
    obtain ⟨dx, fds, _, a2, _, _, _, _, _, _, _, _, _, e0, _, _, e3, e4, _⟩ := id hM.ex
    have hck : (intsV m.clock).length = m.clock.length := by simp [intsV]
    refine ⟨_, (pss_cons (ps_if (PW.pt (pw_or (pt_not (pt_val (pe_callB (call_isE (K := c.K)) (by rfl) B.isinstance (by decide +kernel) (pa_cons (pv 1) (pa_cons (pe_ty "tuple" "tuple" (by rfl) B.tuple (by decide +kernel)) pa_nil))))) (pw_or1 (pt_cmpR (op_neU (K := c.K) hu) (pe_callB (call_lenU (K := c.K)) (by rfl) B.len (by decide +kernel) (pa_cons (pv 1) pa_nil)) (pe_callB (call_lenU (K := c.K)) (by rfl) B.len (by decide +kernel) (pa_cons (pe_prO D_Machine_clock (hr.mono (by omega)) (pv 0)) pa_nil)) (nomark _))))) (pss_one (ps_ret pe_bl)) pss_nil)
    (pss_one (ps_ret (pe_callB (call_allU (K := c.K) rfl) (by rfl) B.all (by decide +kernel) (pa_cons (pe_lc (own := [("watched", 2)]) rfl sc_is_watch.nd (pi_seq (K := c.K) (pv 1)) (blkOk_by (N := N_is_watch) (sc := defScope s_is_watch) (by decide +kernel)) (fun _ _ _ _ _ => (pg_name (i := 2) sc_is_watch.nd rfl (by first | exact Or.inl rfl | exact Or.inr rfl))) (fun _ _ _ _ _ => pts_nil) (fun _ _ _ _ _ => (pe_f D_are_pages_of (hr.mono (by omega)) (by rfl) (pa_cons (pv 0) (pa_cons (pv 2) pa_nil))))) pa_nil))))), ?_⟩
    refine ⟨_, rfl, r_c (r_nil ⟨M, x, d, "tuple", _, rfl, hd, isa_tup, ⟨_, rfl, ?_⟩⟩)⟩
    have q' := q H (Go.refl _ _)
    cases d <;> first
      | exact q'
      | skip
    rename_i ds
    simp only [Rq] at hd
    obtain ⟨a, xs, rfl, hs, hA⟩ := hd
    rw [wt_tup] at hw
    have hlen := hA.len
    have hdl := len_wtA ds
    refine (if_neg (by simp [PyData.isTuple])).mpr ?_
    refine ⟨_, rfl, r_nil (r_lenT hs ⟨_, rfl, o, dx, fds, rfl, e0, o, dx, fds, _, rfl, e0, e3, r_nil (r_lenT e4 (.inl ⟨rfl, _, rfl, ?_⟩))⟩)⟩
    by_cases hl : ds.length = m.clock.length
    · have en : V.int (xs.length : Nat) = V.int ((intsV m.clock).length : Nat) := by rw [hlen, hck, hl]
      refine (if_neg (by rw [decide_eq_true en]; simp)).mpr ?_
      refine .inl (.inr ⟨_, rfl, a, rfl, ⟨_, hs⟩, fun D hD => ?_⟩)
      refine lc_map (walk_tup (xs := xs)) [] (fun _ _ => True) (fun i y _ => ∃ p, ds[i]? = some p ∧ y = .bl (pagesOfD m p)) yk_at
        (by omega) hD (fun _ h => nomatch h) (fun H' g => g.sqT hs) trivial (fun _ _ _ _ _ => trivial) (fun _ _ _ _ _ _ h => h) ?_ ?_
      · rintro i y H2 H3 Fin hi g2 g3 _ ⟨rfl, hx⟩ fin
        obtain ⟨p, hp, hdp⟩ := RqA.at hA hx
        have hpw := wt_mem (List.mem_of_getElem? hp)
        refine ⟨rfl, _, rfl, _, rfl, ?_⟩
        exact ⟨M, o, y, m, cs, p, rfl, hM.go g2, Rq.go g2.wide _ _ hdp, by omega, fun H' g => fin _ _ g trivial ⟨p, hp, rfl⟩⟩
      · intro H2 ys g2 _ hD2 hl2 hr'
        have ey : ys = (ds.map (pagesOfD m)).map V.bl := by
          rw [List.map_map]
          exact list_of (by omega) fun i y e => hr' i y e
        subst ey
        refine r_nil (r_all (SqL.of hD2) ?_)
        have q2 := q H2 g2
        have e : isWatchD m (.tuple ds) = (ds.map (pagesOfD m)).all id := by
          show (decide (ds.length = m.clock.length) && ds.all (pagesOfD m)) = _
          rw [decide_eq_true hl, Bool.true_and, List.all_map]
          rfl
        rw [e] at q2
        exact q2
    · have en : ¬ (V.int (xs.length : Nat) = V.int ((intsV m.clock).length : Nat)) := by
        rw [hlen, hck]
        intro z
        have z' := V.int.inj z
        exact hl (by omega)
      refine (if_pos (by rw [decide_eq_false en]; simp)).mpr ?_
      have e : isWatchD m (.tuple ds) = false := by
        show (decide (ds.length = m.clock.length) && ds.all (pagesOfD m)) = false
        rw [decide_eq_false hl, Bool.false_and]
      rw [e] at q'
      exact q'
theorem ok_check_watchQ (F : At c "check_watch" "check_watch" s_check_watch P_check_watch) (Er_BadWatch : Er c "BadWatch" CW) (D_is_watch : Ok c "is_watch" 4 P_is_watch (spWatchQ c C)) : Ok c "check_watch" 5 P_check_watch (spCheckQ c C CW) := by
  refine Ok.ofX F sc_check_watch (fun vs H Q E h => ?_) (fun f cdv A out s H vs Q E hr h => ?_)
  · obtain ⟨M, o, x, m, cs, d, rfl, _⟩ := h
    rfl
  · obtain ⟨M, o, x, m, cs, d, rfl, hM, hd, hw, q1, q2⟩ := h
    refine ⟨_, (pss_one (ps_if (pt_not (pt_val (pe_f D_is_watch (hr.mono (by omega)) (by rfl) (pa_cons (pv 0) (pa_cons (pv 1) pa_nil))))) (pss_one (ps_raiseV Er_BadWatch rfl rfl (takes_of rfl rfl rfl rfl) (hr.mono (by omega)) (by rfl) (pv 1))) pss_nil)), ?_⟩
    refine ⟨_, rfl, _, rfl, M, o, x, m, cs, d, rfl, hM, hd, hw, fun H1 g1 => ⟨_, rfl, ?_⟩⟩
    by_cases hk : isWatchD m d = true
    · exact (if_neg (by rw [hk]; simp)).mpr (q1 hk H1 g1)
    · have hk' : isWatchD m d = false := by simpa using hk
      refine (if_pos (by rw [hk']; rfl)).mpr ?_
      obtain ⟨_, _, T, _⟩ := Er_BadWatch.ex
      exact ⟨_, rfl, kRaise_of T ⟨rfl, rfl, rfl, rfl, rfl⟩ (fun b hb z => hb (g1.free (by simp) z)) fun dd hdd => q2 hk' H1 dd g1 hdd⟩
end
end Sd

/-! V09d: turns of any thing, told or refused -/
namespace Sd
open PySem PySem.Spec PyProof.Rows L2 RZ RT LamX
def isNm (m : Mac) : PyData → Bool
  | .str z => decide (z ∈ m.steps.map Stp.name)
  | _ => false
theorem fol_names {m : Mac} (hB : macB m = true) {a z : Str} (h : folS m a z = true) : z ∈ m.steps.map Stp.name := by
  obtain ⟨s, hs, e⟩ := List.any_eq_true.mp h
  simp only [Bool.and_eq_true, decide_eq_true_eq] at e
  obtain ⟨j, hj⟩ := List.mem_iff_getElem?.mp hs
  obtain ⟨i, t, ht, et⟩ := fol_step hB hj e.2
  rw [← et]
  exact List.mem_map.mpr ⟨t, List.mem_of_getElem? ht, rfl⟩
theorem on_names {m : Mac} (hB : macB m = true) : ∀ {ds : List PyData} {a : Str}, onB m a ds = true → ∀ d ∈ ds, isNm m d = true
  | [], _, _, d, hd => nomatch hd
  | .str z :: ds, a, h, d, hd => by
    have h' : (folS m a z && onB m z ds) = true := h
    rw [Bool.and_eq_true] at h'
    rcases List.mem_cons.mp hd with e | e
    · rw [e]
      exact decide_eq_true (fol_names hB h'.1)
    · exact on_names hB h'.2 d e
  | .none :: ds, a, h, _, _ => nomatch h
  | .bool _ :: ds, a, h, _, _ => nomatch h
  | .int _ :: ds, a, h, _, _ => nomatch h
  | .list _ :: ds, a, h, _, _ => nomatch h
  | .tuple _ :: ds, a, h, _, _ => nomatch h
  | .dict _ :: ds, a, h, _, _ => nomatch h
theorem name0_in {m : Mac} (hB : macB m = true) : name0 m ∈ m.steps.map Stp.name := by
  simp only [macB, stepsB, Bool.and_eq_true, decide_eq_true_eq] at hB
  obtain ⟨s, hs⟩ : ∃ s, m.steps[0]? = some s := ⟨_, List.getElem?_eq_getElem (by omega)⟩
  unfold name0
  rw [List.getD_eq_getElem?_getD, List.getElem?_map, hs]
  exact List.mem_map.mpr ⟨s, List.mem_of_getElem? hs, rfl⟩
theorem run_names {m : Mac} (hB : macB m = true) {ds : List PyData} (h : isRunD m (.tuple ds) = true) : ∀ d ∈ ds, isNm m d = true := by
  cases ds with
  | nil => cases h
  | cons d0 ds =>
    have h' : (isS d0 (name0 m) && onB m (name0 m) ds) = true := h
    rw [Bool.and_eq_true] at h'
    intro d hd
    rcases List.mem_cons.mp hd with e | e
    · rw [e, isS_eq h'.1]
      exact decide_eq_true (name0_in hB)
    · exact on_names hB h'.2 d e
theorem strs_of {m : Mac} : ∀ {ds : List PyData}, (∀ d ∈ ds, isNm m d = true) → ∃ zs : List Str, ds = zs.map PyData.str ∧ ∀ z ∈ zs, z ∈ m.steps.map Stp.name
  | [], _ => ⟨[], rfl, fun z hz => nomatch hz⟩
  | d :: ds, h => by
    obtain ⟨zs, e, hz⟩ := strs_of (ds := ds) fun x hx => h x (List.mem_cons_of_mem _ hx)
    have hd := h d List.mem_cons_self
    cases d with
    | str z =>
      refine ⟨z :: zs, by rw [e]; rfl, fun y hy => ?_⟩
      rcases List.mem_cons.mp hy with e' | e'
      · rw [e']
        exact of_decide_eq_true hd
      · exact hz y e'
    | _ => exact nomatch hd
theorem on_pairs (m : Mac) : ∀ (zs : List Str) (a : Str), onB m a (zs.map PyData.str) = (((a :: zs).zip zs).map fun p => folS m p.1 p.2).all id
  | [], _ => rfl
  | z :: zs, a => by
    show (folS m a z && onB m z (zs.map PyData.str)) = _
    rw [on_pairs m zs z]
    simp
theorem rq_strs {K : PySem.W.Frag} {M : List Addr} {H : Hp} : ∀ {zs : List Str} {xs : List V}, RqA K M H (zs.map PyData.str) xs → xs = zs.map V.str
  | [], xs, h => by simpa [RqA] using h
  | z :: zs, xs, h => by
    simp only [List.map_cons, RqA] at h
    obtain ⟨v, vs, rfl, h1, h2⟩ := h
    simp only [Rq] at h1
    rw [h1, rq_strs h2]
    rfl
theorem on_next (m : Mac) : ∀ {zs : List Str} {a : Str}, onB m a (zs.map PyData.str) = true → ∀ (j : Nat) (x y : Str), (a :: zs)[j]? = some x → zs[j]? = some y → folS m x y = true
  | [], _, _, j, x, y, _, h => by simp at h
  | z :: zs, a, h, 0, x, y, h1, h2 => by
    have h' : (folS m a z && onB m z (zs.map PyData.str)) = true := h
    rw [Bool.and_eq_true] at h'
    cases h1
    cases h2
    exact h'.1
  | z :: zs, a, h, j + 1, x, y, h1, h2 => by
    have h' : (folS m a z && onB m z (zs.map PyData.str)) = true := h
    rw [Bool.and_eq_true] at h'
    exact on_next m h'.2 j x y (by simpa using h1) (by simpa using h2)
theorem steps_of {m : Mac} : ∀ {zs : List Str}, (∀ z ∈ zs, z ∈ m.steps.map Stp.name) → ∃ ss : List Stp, ss.map Stp.name = zs ∧ ∀ s ∈ ss, ∃ i : Nat, m.steps[i]? = some s
  | [], _ => ⟨[], rfl, fun s h => nomatch h⟩
  | z :: zs, h => by
    obtain ⟨ss, e, hs⟩ := steps_of (zs := zs) fun y hy => h y (List.mem_cons_of_mem _ hy)
    obtain ⟨s, h1, h2⟩ := List.mem_map.mp (h z List.mem_cons_self)
    obtain ⟨i, hi⟩ := List.mem_iff_getElem?.mp h1
    refine ⟨s :: ss, by rw [List.map_cons, h2, e], fun t ht => ?_⟩
    rcases List.mem_cons.mp ht with e' | e'
    · rw [e']
      exact ⟨i, hi⟩
    · exact hs t e'
theorem run_of {m : Mac} (hB : macB m = true) {d : PyData} (h : isRunD m d = true) (hw : wt d ≤ 1000) : ∃ ss : List Stp, d = namesD (ss.map Stp.name) ∧ RunOk m (ss.map Stp.name) ∧ ∀ s ∈ ss, ∃ i : Nat, m.steps[i]? = some s := by
  cases d with
  | tuple ds =>
    obtain ⟨zs, rfl, hz⟩ := strs_of (run_names hB h)
    obtain ⟨ss, e, hs⟩ := steps_of hz
    refine ⟨ss, by rw [e]; rfl, ?_, hs⟩
    rw [e]
    cases zs with
    | nil => exact nomatch h
    | cons z zs =>
      have h' : (isS (.str z) (name0 m) && onB m (name0 m) (zs.map PyData.str)) = true := h
      rw [Bool.and_eq_true] at h'
      have ez : z = name0 m := by
        have := isS_eq h'.1
        exact PyData.str.inj this
      have hB' := hB
      simp only [macB, stepsB, Bool.and_eq_true, decide_eq_true_eq] at hB'
      obtain ⟨s0, hs0⟩ : ∃ s, m.steps[0]? = some s := ⟨_, List.getElem?_eq_getElem (by omega)⟩
      have n0 : name0 m = s0.name := by
        unfold name0
        rw [List.getD_eq_getElem?_getD, List.getElem?_map, hs0]
        rfl
      refine ⟨⟨s0, hs0, by rw [ez, n0]; rfl⟩, fun j a b h1 h2 => ?_, ?_⟩
      · have f := on_next m h'.2 j a b (by rw [← ez]; exact h1) (by simpa using h2)
        obtain ⟨s, k1, k2⟩ := List.any_eq_true.mp f
        simp only [Bool.and_eq_true, decide_eq_true_eq] at k2
        obtain ⟨i, hi⟩ := List.mem_iff_getElem?.mp k1
        exact ⟨i, s, hi, k2.1, k2.2⟩
      · have h1 := len_wtA ((z :: zs).map PyData.str)
        have h2 : wt (.tuple ((z :: zs).map PyData.str)) = 1 + wtA ((z :: zs).map PyData.str) := rfl
        rw [List.length_map] at h1
        omega
  | _ => exact nomatch h
theorem rq_names {K : PySem.W.Frag} {M : List Addr} {H : Hp} {zs : List Str} {x : V} (h : Rq K M H (namesD zs) x) : ∃ r, x = .ref r ∧ SqT K H r (zs.map V.str) := by
  simp only [namesD, Rq] at h
  obtain ⟨a, xs, rfl, hs, hA⟩ := h
  have := strs_inv hA
  subst this
  exact ⟨a, rfl, hs⟩
def spTurnsQ (c : Wd) (C CR : Addr) : Sp := fun vs H Q E => ∃ (M : List Addr) (o : Addr) (x : V) (m : Mac) (cs : List (List Nat)) (d : PyData), vs = [.ref o, x] ∧ MacAt c.K C H o m cs ∧ macB m = true ∧ Rq c.K M H d x ∧ wt d ≤ 1000 ∧
  (∀ (r : Addr) (ss : List Stp), d = namesD (ss.map Stp.name) → x = .ref r → SqT c.K H r ((ss.map Stp.name).map V.str) → RunOk m (ss.map Stp.name) → (∀ s ∈ ss, ∃ i : Nat, m.steps[i]? = some s) → ∀ H' t i, H t = none → Go [] H H' → TurnsAt c.K H' t m.clock (ss.map Stp.name) i → (ss.map Stp.name).length ≤ stF m.clock i → (i = 0 ∨ stF m.clock (i - 1) < (ss.map Stp.name).length) → Q (.ref t) H') ∧
  (isRunD m d = false → ∀ H' dd, Go [] H H' → H' dd = none → E (.ref CR) (some dd) (upd H' dd (exd dd [("value", x)])))
section
variable {c : Wd} {C CR CW : Addr}
theorem ok_turns_ofQ (F : At c "turns_of" "turns_of" s_turns_of P_turns_of) (B : Bi c) (Er_BadRun : Er c "BadRun" CR) (D_Machine_clock : PrO c C "clock" 1 P_Machine_clock (spGet C "_clock")) (D_Machine_is_run : MtO c C "is_run" 3 P_Machine_is_run (spIsRunQ c C))
    (D_place_of : Ok c "place_of" 3 P_place_of (spPlace c C)) (nr : ("is_run" : Str) ∉ mNames) : Ok c "turns_of" 4 P_turns_of (spTurnsQ c C CR) := by
  refine Ok.ofX F sc_turns_of (fun vs H Q E h => ?_) (fun f cdv A out s H vs Q E hr h => ?_)
  · obtain ⟨M, o, x, m, cs, d, rfl, _⟩ := h
    rfl
  · obtain ⟨M, o, x, m, cs, d, rfl, hM, hB, hd, hw, q1, q2⟩ := h
    have hu1 := hu_of hr
    refine ⟨_, (pss_cons (ps_if (pt_not (pt_val (pe_mtO D_Machine_is_run (hr.mono (by omega)) (pv 0) (pa_cons (pv 1) pa_nil)))) (pss_one (ps_raiseV Er_BadRun rfl rfl (takes_of rfl rfl rfl rfl) (hr.mono (by omega)) (by rfl) (pv 1))) pss_nil)
    (pss_cons (ps_set (i := 2) sc_turns_of.nd rfl (by first | exact Or.inl rfl | exact Or.inr rfl) (pe_lst pa_nil))
    (pss_cons (ps_set (i := 3) sc_turns_of.nd rfl (by first | exact Or.inl rfl | exact Or.inr rfl) pe_int)
    (pss_cons (ps_while (passes_of rfl) (pt_cmpR op_ltU (pv 3) (pe_callB (call_lenU (K := c.K)) (by rfl) B.len (by decide +kernel) (pa_cons (pv 1) pa_nil)) (nomark _)) (pss_cons (ps_set (i := 4) sc_turns_of.nd rfl (by first | exact Or.inl rfl | exact Or.inr rfl) (pe_ixU (K := c.K) hu1 (pe_prO D_Machine_clock (hr.mono (by omega)) (pv 0)) (pe_f D_place_of (hr.mono (by omega)) (by rfl) (pa_cons (pv 0) (pa_cons (pe_callB (call_lenU (K := c.K)) (by rfl) B.len (by decide +kernel) (pa_cons (pv 2) pa_nil)) pa_nil))) (fun _ _ => rfl) (fun _ _ => rfl)))
    (pss_cons (ps_expr (pe_bm PySem.F.plainAttrs_list PySem.F.slot_list_append PySem.F.type_list_append mt_append (pv 2) (pa_cons (pe_slice (sl_U (K := c.K)) (pv 1) (po_some (pv 3)) (po_some (pe_op (op_addU (K := c.K)) (pv 3) (pv 4)))) pa_nil)))
    (pss_one (ps_aug (i := 3) sc_turns_of.nd rfl (by first | exact Or.inl rfl | exact Or.inr rfl) (pv 4) ip_add)))))
    (pss_one (ps_ret (pv 2))))))), ?_⟩
    obtain ⟨dx, fs, _, _, _, _, _, _, _, _, _, _, _, e0, _, _, _, _, _, _, _, _, _, _, _, _, _, _, _, _, _, _, _, _, _, _, e23⟩ := id hM.ex
    refine ⟨_, rfl, o, dx, fs, rfl, e0, e23 _ nr, _, rfl, o, x, m, cs, M, d, rfl, hM, hB, hd, fun H1 g1 => ⟨_, rfl, ?_⟩⟩
    by_cases hk : isRunD m d = true
    · obtain ⟨ss, rfl, hR, hss⟩ := run_of hB hk hw
      obtain ⟨r, rfl, hs⟩ := rq_names hd
      have q := q1 r ss rfl rfl hs hR hss
      generalize hns : ss.map Stp.name = ns at *
      refine (if_neg (by rw [hk]; simp)).mpr ?_
      have hlen : (ns.map V.str).length = ns.length := by simp
      have hck : ∀ i, 1 ≤ m.clock.getD (i % m.clock.length) 0 ∧ m.clock[i % m.clock.length]? = some (m.clock.getD (i % m.clock.length) 0) := by
        simp only [macB, clockB, Bool.and_eq_true, decide_eq_true_eq, List.all_eq_true] at hB
        obtain ⟨_, ⟨c1, _, c3⟩, _⟩ := hB
        intro i
        have hi : i % m.clock.length < m.clock.length := Nat.mod_lt _ (by omega)
        rw [List.getD_eq_getElem?_getD, List.getElem?_eq_getElem hi]
        exact ⟨(c3 _ (List.getElem_mem hi)).1, rfl⟩
      dsimp only [tNext, tSeq, tAsg, tLst, tNil]
      refine ⟨Nat.zero_le _, fun t ft => ?_⟩
      have ft0 : H t = none := by
        cases e : H t with
        | none => rfl
        | some u => rw [g1.old t u (fun z => nomatch z) e] at ft; cases ft
      refine ⟨fun k σ H' => ∃ i, k = ns.length - stF m.clock i ∧ (i = 0 ∨ stF m.clock (i - 1) < ns.length) ∧ Go [] H H' ∧ TurnsAt c.K H' t m.clock ns i ∧ ∃ z, σ = [some (.ref o), some (.ref r), some (.ref t), some (.int ((stF m.clock i : Nat) : Int)), z], ?_, ?_⟩
      · refine ⟨_, 0, rfl, .inl rfl, g1.mut ft0, ⟨[], upd_same, rfl, fun j a h => by simp at h⟩, _, rfl⟩
      rintro k σ H2 ⟨i, rfl, hi, g2, hT, z, rfl⟩
      refine ⟨_, rfl, _, rfl, r_nil (r_lenT (g2.sqT hs) (r_ltI ⟨_, rfl, ?_⟩))⟩
      by_cases hlt : stF m.clock i < ns.length
      · obtain ⟨ts, hl1, hl2, hl3⟩ := hT.ex
        have hM2 := hM.go g2
        obtain ⟨dx2, fs2, _, a2, _, _, _, _, _, _, _, _, _, k0, _, _, k3, k4, _⟩ := id hM2.ex
        have hstep : stF m.clock (i + 1) = stF m.clock i + m.clock.getD (i % m.clock.length) 0 := rfl
        have hc := hck i
        refine (if_pos (by rw [hlen]; simpa using hlt)).mpr ⟨fun σ' H' => Go [] H H' ∧ TurnsAt c.K H' t m.clock ns (i + 1) ∧ ∃ z, σ' = [some (.ref o), some (.ref r), some (.ref t), some (.int ((stF m.clock (i + 1) : Nat) : Int)), z],
          fun σ' H' h' => ⟨ns.length - stF m.clock (i + 1), by omega, i + 1, rfl, .inr hlt, h'⟩, ?_⟩
        refine .inl ⟨_, rfl, o, dx2, fs2, rfl, k0, o, dx2, fs2, _, rfl, k0, k3, ⟨_, rfl, _, rfl, r_nil (r_lenL (SqL.of hl1) (r_nil ⟨o, m, cs, i, by simp [hl2], hM2, hB, fun H3 g3 => ?_⟩))⟩⟩
        refine ixT (i := i % m.clock.length) (g3.sqT k4) (v := .int ((m.clock.getD (i % m.clock.length) 0 : Nat) : Int)) (by rw [intsV, List.getElem?_map, hc.2]; rfl) ?_
        have l3 : H3 t = some (.lst (ts.map V.ref)) := g3.old t _ (fun z => nomatch z) hl1
        have tl : ts.length ≤ 1000 := by
          have : ∀ j, j ≤ stF m.clock j := by
            intro j
            induction j with
            | zero => exact Nat.zero_le _
            | succ j ih =>
              have := (hck j).1
              show j + 1 ≤ stF m.clock j + m.clock.getD (j % m.clock.length) 0
              omega
          have := this i
          have := hR.few
          omega
        refine ⟨_, rfl, .inl ⟨rfl, _, SqL.of l3⟩, _, rfl, _, rfl, _, rfl, _, rfl, _, rfl, r_addI ⟨_, rfl, r_slT ((g2.trans g3).sqT hs) fun b H4 g4 hb => r_nil ?_⟩⟩
        refine ⟨t, ts.map V.ref, .ref b, rfl, rfl, g4.old t _ (fun z => nomatch z) l3, by rw [List.length_map, sizeLine_eq]; omega, ?_⟩
        refine ⟨_, rfl, _, rfl, _, _, rfl, rfl, ?_⟩
        have l4 : H4 t = some (.lst (ts.map V.ref)) := g4.old t _ (fun z => nomatch z) l3
        have gp : Go [t] H4 (upd H4 t (.lst (ts.map V.ref ++ [.ref b]))) := Go.put l4 rfl (List.Mem.head _)
        have ec : ((stF m.clock i : Nat) : Int) + ((m.clock.getD (i % m.clock.length) 0 : Nat) : Int) = ((stF m.clock (i + 1) : Nat) : Int) := by
          rw [hstep]
          exact (Int.natCast_add _ _).symm
        refine ⟨((g2.trans g3).trans g4).mut ft0, ⟨ts ++ [b], by rw [List.map_append]; exact upd_same, by simp [hl2], fun j a hj => ?_⟩, some (.int ((m.clock.getD (i % m.clock.length) 0 : Nat) : Int)), ?_⟩
        · by_cases hjl : j < ts.length
          · rw [List.getElem?_append_left hjl] at hj
            exact gp.sqT (g4.sqT (g3.sqT (hl3 j a hj)))
          · have hj2 : j = ts.length := by
              have := (List.getElem?_eq_some_iff.mp hj).1
              simp at this
              omega
            subst hj2
            have hba : b = a := by simpa using hj
            subst hba
            rw [ec] at hb
            have hcut : cutV (ns.map V.str) (some ((stF m.clock i : Nat) : Int)) (some ((stF m.clock (i + 1) : Nat) : Int)) = (turnS m.clock ns ts.length).map V.str := by
              rw [hl2, cut_in, List.drop_take, turnS, List.map_take, List.map_drop]
              congr 1
              omega
            rw [hcut] at hb
            exact gp.sqT hb
        · show [_, _, _, some (V.int (((stF m.clock i : Nat) : Int) + ((m.clock.getD (i % m.clock.length) 0 : Nat) : Int))), _] = _
          rw [ec]
      · refine (if_neg (by rw [hlen]; simpa using Nat.le_of_not_lt hlt)).mpr ?_
        exact ⟨_, rfl, q H2 t i ft0 g2 hT (by omega) hi⟩
    · have hk' : isRunD m d = false := by simpa using hk
      refine (if_pos (by rw [hk']; rfl)).mpr ?_
      obtain ⟨_, _, T, _⟩ := Er_BadRun.ex
      exact ⟨_, rfl, kRaise_of T ⟨rfl, rfl, rfl, rfl, rfl⟩ (fun b hb z => hb (g1.free (by simp) z)) fun dd hdd => q2 hk' H1 dd g1 hdd⟩
end
end Sd

/-! V09e: what is seen of any thing, told or refused -/
namespace Sd
open PySem PySem.Spec PyProof.Rows L2 RZ RT LamX
theorem rqA_nmsD {K : PySem.W.Frag} {M : List Addr} {H : Hp} {m : Mac} : ∀ {ds : List PyData} {xs : List V}, ds.all (pagesOfD m) = true → (∀ d ∈ ds, wt d ≤ 1000) → RqA K M H ds xs → ∃ (as : List Addr) (ws : List (List Str)), xs = as.map V.ref ∧ as.length = ws.length ∧ ds = ws.map namesD ∧ (∀ (j : Nat) (a : Addr) (fs : List Str), as[j]? = some a → ws[j]? = some fs → SqT K H a (fs.map V.str)) ∧ ∀ fs ∈ ws, watB m.pages fs = true
  | [], xs, _, _, h => by
    simp only [RqA] at h
    subst h
    exact ⟨[], [], rfl, rfl, rfl, fun j a fs e => by simp at e, fun fs h => nomatch h⟩
  | d :: ds, xs, ha, hw, h => by
    simp only [RqA] at h
    obtain ⟨v, vs, rfl, h1, h2⟩ := h
    have ha' : (pagesOfD m d && ds.all (pagesOfD m)) = true := ha
    rw [Bool.and_eq_true] at ha'
    obtain ⟨as, ws, rfl, l, e, k, b⟩ := rqA_nmsD ha'.2 (fun x hx => hw x (List.mem_cons_of_mem _ hx)) h2
    have hp := ha'.1
    unfold pagesOfD at hp
    rw [Bool.and_eq_true] at hp
    obtain ⟨a, fs, rfl, hs, _, rfl, nB⟩ := lenD_of hp.1 h1
    have hwd := hw (namesD fs) List.mem_cons_self
    rw [strsD_names] at hp
    refine ⟨a :: as, fs :: ws, rfl, by simp [l], by rw [e]; rfl, fun j x gs e1 e2 => ?_, fun gs hg => ?_⟩
    · cases j with
      | zero =>
        cases e1
        cases e2
        exact hs
      | succ j => exact k j x gs (by simpa using e1) (by simpa using e2)
    · rcases List.mem_cons.mp hg with z | z
      · rw [z]
        simp only [watB, Bool.and_eq_true, decide_eq_true_eq]
        have h1 := len_wtA (fs.map PyData.str)
        have h2 : wt (namesD fs) = 1 + wtA (fs.map PyData.str) := rfl
        rw [List.length_map] at h1
        exact ⟨nB, by omega, hp.2⟩
      · exact b gs z
theorem watch_of {K : PySem.W.Frag} {M : List Addr} {H : Hp} {m : Mac} {d : PyData} {x : V} (h : isWatchD m d = true) (hd : Rq K M H d x) (hw : wt d ≤ 1000) : ∃ (w : Addr) (ws : List (List Str)), x = .ref w ∧ WatAt K H w ws ∧ watchB m ws = true := by
  cases d with
  | tuple ds =>
    have h' : (decide (ds.length = m.clock.length) && ds.all (pagesOfD m)) = true := h
    simp only [Bool.and_eq_true, decide_eq_true_eq] at h'
    simp only [Rq] at hd
    obtain ⟨a, xs, rfl, hs, hA⟩ := hd
    rw [wt_tup] at hw
    obtain ⟨as, ws, rfl, l, e, k, b⟩ := rqA_nmsD h'.2 (fun d hd => by have := wt_mem hd; omega) hA
    refine ⟨a, ws, rfl, ⟨as, hs, l, k⟩, ?_⟩
    simp only [watchB, Bool.and_eq_true, decide_eq_true_eq, List.all_eq_true]
    refine ⟨?_, b⟩
    rw [← h'.1, e, List.length_map]
  | _ => exact nomatch h
theorem on_back {m : Mac} : ∀ {zs : List Str} {a : Str}, (∀ (j : Nat) (x y : Str), (a :: zs)[j]? = some x → zs[j]? = some y → folS m x y = true) → onB m a (zs.map PyData.str) = true
  | [], _, _ => rfl
  | z :: zs, a, h => by
    show (folS m a z && onB m z (zs.map PyData.str)) = true
    rw [h 0 a z rfl rfl, on_back fun j x y e1 e2 => h (j + 1) x y (by simpa using e1) (by simpa using e2)]
    rfl
theorem run_back {m : Mac} (hB : macB m = true) {d : PyData} {ss : List Stp} (e : d = namesD (ss.map Stp.name)) (hR : RunOk m (ss.map Stp.name)) : isRunD m d = true := by
  subst e
  obtain ⟨s, h1, h2⟩ := hR.beg
  generalize ss.map Stp.name = ns at *
  cases ns with
  | nil => simp at h2
  | cons z zs =>
    have ez : z = s.name := by simpa using h2
    have n0 : name0 m = s.name := by
      unfold name0
      rw [List.getD_eq_getElem?_getD, List.getElem?_map, h1]
      rfl
    show (isS (.str z) (name0 m) && onB m (name0 m) (zs.map PyData.str)) = true
    rw [Bool.and_eq_true]
    refine ⟨by rw [ez, n0]; simp [isS], on_back fun j x y e1 e2 => ?_⟩
    obtain ⟨i, st, k1, k2, k3⟩ := hR.nxt j x y (by rw [ez, ← n0]; exact e1) (by simpa using e2)
    exact List.any_eq_true.mpr ⟨st, List.mem_of_getElem? k1, by rw [k2]; simp [k3]⟩
def spSeenUQ (c : Wd) (C CW CR : Addr) : Sp := fun vs H Q E => ∃ (M : List Addr) (o : Addr) (x y : V) (m : Mac) (cs : List (List Nat)) (dw dr : PyData), vs = [.ref o, x, y] ∧ MacAt c.K C H o m cs ∧ macB m = true ∧ Rq c.K M H dw x ∧ wt dw ≤ 1000 ∧ Rq c.K M H dr y ∧ wt dr ≤ 1000 ∧
  (isWatchD m dw = true → isRunD m dr = true → ∀ H' t a b, Go [] H H' → SqT c.K H' t [.ref a, .ref b] → Q (.ref t) H') ∧
  (isWatchD m dw = false → ∀ H' dd, Go [] H H' → H' dd = none → E (.ref CW) (some dd) (upd H' dd (exd dd [("value", x)]))) ∧
  (isWatchD m dw = true → isRunD m dr = false → ∀ H' dd, Go [] H H' → H' dd = none → E (.ref CR) (some dd) (upd H' dd (exd dd [("value", y)])))
def spSeenQ (c : Wd) (C CW CR : Addr) : Sp := fun vs H Q E => ∃ (M : List Addr) (o : Addr) (x y : V) (m : Mac) (cs : List (List Nat)) (dw dr : PyData), vs = [.ref o, x, y] ∧ MacAt c.K C H o m cs ∧ macB m = true ∧ Rq c.K M H dw x ∧ wt dw ≤ 1000 ∧ Rq c.K M H dr y ∧ wt dr ≤ 1000 ∧
  (isWatchD m dw = true → isRunD m dr = true → ∀ H' v, Go [] H H' → Q v H') ∧
  (isWatchD m dw = false → ∀ H' dd, Go [] H H' → H' dd = none → E (.ref CW) (some dd) (upd H' dd (exd dd [("value", x)]))) ∧
  (isWatchD m dw = true → isRunD m dr = false → ∀ H' dd, Go [] H H' → H' dd = none → E (.ref CR) (some dd) (upd H' dd (exd dd [("value", y)])))
section
variable {c : Wd} {C CW CR : Addr}
theorem ok_seen_and_unseenQ (F : At c "seen_and_unseen" "seen_and_unseen" s_seen_and_unseen P_seen_and_unseen) (B : Bi c) (D_Machine_clock : PrO c C "clock" 1 P_Machine_clock (spGet C "_clock"))
    (D_check_watch : Ok c "check_watch" 5 P_check_watch (spCheckQ c C CW)) (D_turns_of : Ok c "turns_of" 4 P_turns_of (spTurnsQ c C CR)) (D_place_of : Ok c "place_of" 3 P_place_of (spPlace c C))
    (D_with_touches : Ok c "with_touches" 3 P_with_touches (spWith c C)) (D_marks_of : Ok c "marks_of" 1 P_marks_of (spMarks c)) (D_without_seen : Ok c "without_seen" 1 P_without_seen (spWithout c)) :
    Ok c "seen_and_unseen" 6 P_seen_and_unseen (spSeenUQ c C CW CR) := by
  refine Ok.ofX F sc_seen_and_unseen (fun vs H Q E h => ?_) (fun f cdv A out s H vs Q E hr h => ?_)
  · obtain ⟨M, o, x, y, m, cs, dw, dr, rfl, _⟩ := h
    rfl
  · obtain ⟨M, o, x, y, m, cs, dw, dr, rfl, hM, hB, hdw, hww, hdr, hwr, q1, q2, q3⟩ := h
    have hu1 := hu_of hr
    have hu := hr.units
    have hu5 := hr.u5
    refine ⟨_, (pss_cons (ps_expr (pe_fE D_check_watch (hr.mono (by omega)) (passE (takes_of rfl rfl rfl rfl)) (by rfl) (pa_cons (pv 0) (pa_cons (pv 1) pa_nil))))
    (pss_cons (ps_set (i := 3) sc_seen_and_unseen.nd rfl (by first | exact Or.inl rfl | exact Or.inr rfl) (pe_lst pa_nil))
    (pss_cons (ps_set (i := 4) sc_seen_and_unseen.nd rfl (by first | exact Or.inl rfl | exact Or.inr rfl) (pe_tup pa_nil))
    (pss_cons (ps_for (passes_of rfl) rfl (pi_enumU (by rfl) B.enumerate (pa_cons (pe_fE D_turns_of (hr.mono (by omega)) (passE (takes_of rfl rfl rfl rfl)) (by rfl) (pa_cons (pv 0) (pa_cons (pv 2) pa_nil))) pa_nil)) (pg_tupU (K := c.K) (n := 2) rfl (pgs_cons (pg_name (i := 5) sc_seen_and_unseen.nd rfl (by first | exact Or.inl rfl | exact Or.inr rfl)) (pgs_cons (pg_name (i := 6) sc_seen_and_unseen.nd rfl (by first | exact Or.inl rfl | exact Or.inr rfl)) pgs_nil))) (pss_cons (ps_set (i := 7) sc_seen_and_unseen.nd rfl (by first | exact Or.inl rfl | exact Or.inr rfl) (pe_f D_place_of (hr.mono (by omega)) (by rfl) (pa_cons (pv 0) (pa_cons (pv 5) pa_nil))))
    (pss_cons (ps_set (i := 4) sc_seen_and_unseen.nd rfl (by first | exact Or.inl rfl | exact Or.inr rfl) (pe_f D_with_touches (hr.mono (by omega)) (by rfl) (pa_cons (pv 0) (pa_cons (pv 4) (pa_cons (pv 6) pa_nil)))))
    (pss_one (ps_if (pt_cmpR (op_eqU (K := c.K) hu) (pe_callB (call_lenU (K := c.K)) (by rfl) B.len (by decide +kernel) (pa_cons (pv 6) pa_nil)) (pe_ixU (K := c.K) hu1 (pe_prO D_Machine_clock (hr.mono (by omega)) (pv 0)) (pv 7) (fun _ _ => rfl) (fun _ _ => rfl)) (nomark _)) (pss_cons (ps_expr (pe_bm PySem.F.plainAttrs_list PySem.F.slot_list_append PySem.F.type_list_append mt_append (pv 3) (pa_cons (pe_f D_marks_of (hr.mono (by omega)) (by rfl) (pa_cons (pe_ixU (K := c.K) hu1 (pv 1) (pv 7) (fun _ _ => rfl) (fun _ _ => rfl)) (pa_cons (pv 4) pa_nil))) pa_nil)))
    (pss_one (ps_set (i := 4) sc_seen_and_unseen.nd rfl (by first | exact Or.inl rfl | exact Or.inr rfl) (pe_f D_without_seen (hr.mono (by omega)) (by rfl) (pa_cons (pe_ixU (K := c.K) hu1 (pv 1) (pv 7) (fun _ _ => rfl) (fun _ _ => rfl)) (pa_cons (pv 4) pa_nil)))))) pss_nil)))))
    (pss_one (ps_ret (pe_tup (pa_cons (pe_callTy (call_tupU (K := c.K)) (by rfl) B.tuple (by decide +kernel) (pa_cons (pv 3) pa_nil)) (pa_cons (pv 4) pa_nil))))))))), ?_⟩
    refine ⟨_, rfl, _, rfl, M, o, x, m, cs, dw, rfl, hM, hdw, (by omega), fun hk H1 g1 => ?_, q2⟩
    obtain ⟨w, ws, rfl, hW, hwB⟩ := watch_of hk hdw hww
    dsimp only [tNext, tSeq, tAsg, tLst, tNil]
    refine ⟨Nat.zero_le _, fun t ft => ?_⟩
    have ft0 : H t = none := by
      cases e : H t with
      | none => rfl
      | some u => rw [g1.old t u (fun z => nomatch z) e] at ft; cases ft
    refine ⟨Nat.zero_le _, fun p0 fp0 => ?_⟩
    have ga : Go [t] H1 (upd H1 t (.lst [])) := (Go.new ft)
    have gb : Go [t] (upd H1 t (.lst [])) (upd (upd H1 t (.lst [])) p0 (.tup [])) := Go.new fp0
    have g0 := g1.mut (o := .lst []) ft0
    have gc := g0.trans (Go.new (o := .tup []) fp0)
    refine .inl ⟨_, rfl, _, rfl, M, o, y, m, cs, dr, rfl, hM.go gc, hB, Rq.go gc.wide _ _ hdr, hwr, fun r ss er ey hs hR hss H2 tl n ftl g2 hT hn1 hn2 => ?_, fun hk2 H' dd g hdd => q3 hk hk2 H' dd (gc.trans g) hdd⟩
    subst ey
    obtain ⟨ts, hl1, hl2, hl3⟩ := hT.ex
    refine ⟨tl, ts.map V.ref, rfl, SqL.of hl1, ?_⟩
    have lt2 : H2 t = some (.lst []) := g2.old t _ (fun z => nomatch z) (by rw [upd_ne (ne_of_none upd_same fp0)]; exact upd_same)
    have htl : tl ≠ t := fun e => by
      rw [e] at ftl
      rw [upd_ne (ne_of_none upd_same fp0), upd_same] at ftl
      cases ftl
    have hlen : (ts.map V.ref).length = n := by simp [hl2]
    refine for_it (walk_enum (xs := ts.map V.ref)) (fun i σ H' => Go [t] H2 H' ∧ Go [] H H' ∧ ∃ (as : List Addr) (pa : Addr) (z5 z6 z7 : Option V), H' t = some (.lst (as.map V.ref)) ∧ MksAt c.K H' as (seenS m ws ss i).1 ∧ SqT c.K H' pa ((seenS m ws ss i).2.map V.str) ∧
      σ = [some (.ref o), some (.ref w), some (.ref r), some (.ref t), some (.ref pa), z5, z6, z7]) ?_ ?_ ?_ ?_
    · exact ⟨Go.refl _ _, gc.trans g2, [], p0, _, _, _, lt2, ⟨rfl, fun j x bs e => by simp at e⟩, g2.sqT (SqT.of upd_same), rfl⟩
    · rintro i σ H' hi ⟨ga2, _⟩
      exact SqL.of (ga2.old tl _ (by simpa using htl) hl1)
    · rintro i x σ H3 H4 hi ⟨ga3, g3, as, pa, z5, z6, z7, k1, k2, k3, rfl⟩ ⟨T, x1, x2, rfl, fT, rfl, hx1, hx2⟩
      cases hx1
      obtain ⟨ta, hta⟩ : ∃ a, ts[i]? = some a := ⟨_, List.getElem?_eq_getElem (by simpa using hi)⟩
      have hx2' : x2 = .ref ta := by
        have hx3 : (ts.map V.ref)[i]? = some x2 := hx2
        rw [List.getElem?_map, hta] at hx3
        simpa using hx3.symm
      subst hx2'
      have hta2 := hl3 i ta hta
      rw [tS_names] at hta2
      have g34 : Go [] H3 (upd H3 T (.tup [.int ((i : Nat) : Int), .ref ta])) := Go.new fT
      have hM4 := hM.go (g3.trans g34)
      refine ⟨T, _, rfl, SqT.of upd_same, rfl, ?_⟩
      refine ⟨_, _, rfl, _, _, rfl, rfl, ?_⟩
      refine ⟨_, rfl, _, rfl, o, m, cs, i, rfl, hM4, hB, fun H5 g45 => ?_⟩
      have hM5 := hM4.go g45
      have hsz := len_tS m.clock ss i
      have hfew := hR.few
      rw [List.length_map] at hfew
      have k35 := g45.sqT (g34.sqT k3)
      have hta5 := g45.sqT (g34.sqT (ga3.sqT hta2))
      refine ⟨_, rfl, _, rfl, _, rfl, o, pa, ta, m, cs, (seenS m ws ss i).2, tS m.clock ss i, rfl, hM5, hB, k35, hta5, by omega, mem_tS hss, fun H6 pb g56 hpb => ?_⟩
      obtain ⟨ck1, ck2, ck3⟩ := clk hB i
      have hM6 := hM5.go g56
      obtain ⟨dx, fs, _, a2, _, _, _, _, _, _, _, _, _, e0, _, _, e3, e4, _⟩ := id hM6.ex
      have hta6 := g56.sqT hta5
      have lta : (((tS m.clock ss i).map Stp.name).map V.str).length = (tS m.clock ss i).length := by simp
      refine ⟨_, rfl, r_nil (r_lenT hta6 (.inl ⟨_, rfl, o, dx, fs, rfl, e0, o, dx, fs, _, rfl, e0, e3, _, rfl, ixT (i := i % m.clock.length) e4 (v := .int ((m.clock.getD (i % m.clock.length) 0 : Nat) : Int)) (by rw [intsV, List.getElem?_map, ck3]; rfl) (.inl ⟨rfl, _, rfl, ?_⟩)⟩))⟩
      rw [lta]
      have g06 := g3.trans (g34.trans (g45.trans g56))
      have k16 := (g34.trans (g45.trans g56)).old t _ (fun z => nomatch z) k1
      have k26 := k2.go (g34.trans (g45.trans g56))
      have g26 := ga3.trans (g34.trans (g45.trans g56)).wide
      by_cases hc : (tS m.clock ss i).length = m.clock.getD (i % m.clock.length) 0
      · have es : seenS m ws ss (i + 1) = ((seenS m ws ss i).1 ++ [marksS (ws.getD (i % m.clock.length) []) (withS m (seenS m ws ss i).2 (tS m.clock ss i))], (withS m (seenS m ws ss i).2 (tS m.clock ss i)).filter fun x => decide (x ∉ ws.getD (i % m.clock.length) [])) := by
          conv => lhs; unfold seenS
          rw [if_pos hc]
        refine (if_pos (by rw [hc]; simp)).mpr ?_
        simp only [watchB, Bool.and_eq_true, decide_eq_true_eq, List.all_eq_true] at hwB
        obtain ⟨wl, wb⟩ := hwB
        obtain ⟨was, w1, w2, w3⟩ := (hW.go g06).ex
        obtain ⟨wa, hwa⟩ : ∃ a, was[i % m.clock.length]? = some a := ⟨_, List.getElem?_eq_getElem (by omega)⟩
        have hwf : ws[i % m.clock.length]? = some (ws.getD (i % m.clock.length) []) := by
          rw [List.getD_eq_getElem?_getD, List.getElem?_eq_getElem (by omega)]
          rfl
        have w4 := w3 _ _ _ hwa hwf
        have wfew : (ws.getD (i % m.clock.length) []).length ≤ 1000 := by
          have := wb _ (List.mem_of_getElem? hwf)
          simp only [watB, Bool.and_eq_true, decide_eq_true_eq] at this
          exact this.2.1
        have hwr : (was.map V.ref)[i % m.clock.length]? = some (.ref wa) := by rw [List.getElem?_map, hwa]; rfl
        have pfew : (withS m (seenS m ws ss i).2 (tS m.clock ss i)).length ≤ 1000 := by
          refine Nat.le_trans (List.length_filter_le _ _) ?_
          simp only [macB, pagesB, Bool.and_eq_true, decide_eq_true_eq] at hB
          have := hB.2.2.1.2.2.1
          omega
        refine ⟨_, rfl, .inl ⟨rfl, _, SqL.of k16⟩, .inl ⟨_, rfl, _, rfl, ixT w1 hwr ⟨_, rfl, wa, pb, _, _, rfl, w4, hpb, wfew, fun H7 tm g67 hm => r_nil ?_⟩⟩⟩
        have k17 := g67.old t _ (fun z => nomatch z) k16
        have hal : as.length ≤ 1000 := by
          have h1 := seenS_few m ws ss i
          have h2 := k2.1
          have h3 := stF_ge hB (n - 1)
          have h4 : ss.length ≤ 1000 := hfew
          rw [List.length_map] at hn2 hi
          omega
        refine ⟨t, as.map V.ref, .ref tm, rfl, rfl, k17, by rw [List.length_map, sizeLine_eq]; omega, ?_⟩
        have gp : Go [t] H7 (upd H7 t (.lst (as.map V.ref ++ [.ref tm]))) := Go.put k17 rfl (List.Mem.head _)
        have g08 : Go [] H (upd H7 t (.lst (as.map V.ref ++ [.ref tm]))) := (g06.trans g67).mut ft0
        have g68 : Go [t] H6 (upd H7 t (.lst (as.map V.ref ++ [.ref tm]))) := g67.wide.trans gp
        have gp' := gp
        refine .inl ⟨_, rfl, _, rfl, ixT ((g67.wide.trans gp).sqT w1) hwr ⟨_, rfl, wa, pb, _, _, rfl, (g67.wide.trans gp).sqT w4, g68.sqT hpb, pfew, fun H9 pc g89 hpc => ?_⟩⟩
        refine ⟨(g26.trans g68).trans g89.wide, g08.trans g89, as ++ [tm], pc, _, _, _, ?_, ?_, ?_, rfl⟩
        · rw [List.map_append]
          exact g89.old t _ (fun z => nomatch z) upd_same
        · rw [es]
          exact ((k26.go g68).snoc (gp.sqT hm)).go g89
        · rw [es]
          exact hpc
      · have es : seenS m ws ss (i + 1) = ((seenS m ws ss i).1, withS m (seenS m ws ss i).2 (tS m.clock ss i)) := by
          conv => lhs; unfold seenS
          rw [if_neg hc]
        refine (if_neg ?_).mpr ?_
        · intro z
          exact hc (Int.ofNat.inj (V.int.inj (of_decide_eq_true z)))
        · refine ⟨g26, g06, as, pb, _, _, _, k16, ?_, ?_, rfl⟩
          · rw [es]; exact k26
          · rw [es]; exact hpb
    · rintro σ H' ⟨_, g3, as, pa, z5, z6, z7, k1, k2, k3, rfl⟩
      refine ⟨_, rfl, r_nil ⟨t, _, rfl, .inl ⟨SqL.of k1, fun a fa => ⟨_, rfl, r_nil ⟨?_, fun t2 ft2 => ?_⟩⟩⟩⟩⟩
      · show 2 ≤ sizeLine
        decide
      · rw [hlen] at k2 k3
        have gA : Go [] H' (upd H' a (.tup (as.map V.ref))) := Go.new fa
        have gB : Go [] (upd H' a (.tup (as.map V.ref))) (upd (upd H' a (.tup (as.map V.ref))) t2 (.tup [.ref a, .ref pa])) := Go.new ft2
        exact q1 hk (by cases h : isRunD m dr with | true => rfl | false => exact absurd (run_back hB er hR) (by rw [h]; exact Bool.false_ne_true)) _ t2 a pa (g3.trans (gA.trans gB)) (SqT.of upd_same)
theorem ok_seenQ (F : At c "seen" "seen" s_seen P_seen) (D_seen_and_unseen : Ok c "seen_and_unseen" 6 P_seen_and_unseen (spSeenUQ c C CW CR)) : Ok c "seen" 7 P_seen (spSeenQ c C CW CR) := by
  refine Ok.ofX F sc_seen (fun vs H Q E h => ?_) (fun f cdv A out s H vs Q E hr h => ?_)
  · obtain ⟨M, o, x, y, m, cs, dw, dr, rfl, _⟩ := h
    rfl
  · obtain ⟨M, o, x, y, m, cs, dw, dr, rfl, hM, hB, hdw, hww, hdr, hwr, q1, q2, q3⟩ := h
    have hu1 := hu_of hr
    refine ⟨_, (pss_one (ps_ret (pe_ixU (K := c.K) hu1 (pe_fE D_seen_and_unseen (hr.mono (by omega)) (passE (takes_of rfl rfl rfl rfl)) (by rfl) (pa_cons (pv 0) (pa_cons (pv 1) (pa_cons (pv 2) pa_nil)))) pe_int (fun _ _ => rfl) (fun _ _ => rfl)))), ?_⟩
    exact .inl ⟨_, rfl, _, rfl, _, rfl, M, o, x, y, m, cs, dw, dr, rfl, hM, hB, hdw, hww, hdr, hwr, fun k1 k2 H1 t a b g1 ht => ixT (i := 0) ht rfl (q1 k1 k2 H1 _ g1), q2, q3⟩
theorem ok_unseenQ (F : At c "unseen" "unseen" s_unseen P_unseen) (D_seen_and_unseen : Ok c "seen_and_unseen" 6 P_seen_and_unseen (spSeenUQ c C CW CR)) : Ok c "unseen" 7 P_unseen (spSeenQ c C CW CR) := by
  refine Ok.ofX F sc_unseen (fun vs H Q E h => ?_) (fun f cdv A out s H vs Q E hr h => ?_)
  · obtain ⟨M, o, x, y, m, cs, dw, dr, rfl, _⟩ := h
    rfl
  · obtain ⟨M, o, x, y, m, cs, dw, dr, rfl, hM, hB, hdw, hww, hdr, hwr, q1, q2, q3⟩ := h
    have hu1 := hu_of hr
    refine ⟨_, (pss_one (ps_ret (pe_ixU (K := c.K) hu1 (pe_fE D_seen_and_unseen (hr.mono (by omega)) (passE (takes_of rfl rfl rfl rfl)) (by rfl) (pa_cons (pv 0) (pa_cons (pv 1) (pa_cons (pv 2) pa_nil)))) pe_int (fun _ _ => rfl) (fun _ _ => rfl)))), ?_⟩
    exact .inl ⟨_, rfl, _, rfl, _, rfl, M, o, x, y, m, cs, dw, dr, rfl, hM, hB, hdw, hww, hdr, hwr, fun k1 k2 H1 t a b g1 ht => ixT (i := 1) ht rfl (q1 k1 k2 H1 _ g1), q2, q3⟩
end
end Sd

/-! V09f: coarser of any things, told or refused -/
namespace Sd
open PySem PySem.Spec PyProof.Rows L2 RZ RT LamX
def rowIn (ws1 ws2 : List (List Str)) (i : Nat) : List Bool := (ws1.getD i []).map fun g => decide (g ∈ ws2.getD i [])
def flatS (ws1 ws2 : List (List Str)) : Nat → List Bool
  | 0 => []
  | i + 1 => flatS ws1 ws2 i ++ rowIn ws1 ws2 i
def coarseS (ws1 ws2 : List (List Str)) : Bool := ((List.range ws1.length).map fun i => (rowIn ws1 ws2 i).all id).all id
theorem flat_all (ws1 ws2 : List (List Str)) : ∀ n, (flatS ws1 ws2 n).all id = ((List.range n).map fun i => (rowIn ws1 ws2 i).all id).all id
  | 0 => rfl
  | n + 1 => by
    unfold flatS
    rw [List.all_append, flat_all ws1 ws2 n, List.range_succ, List.map_append, List.all_append]
    simp
theorem coarse_of {ws1 ws2 : List (List Str)} (h : ∀ i, ∀ g ∈ ws1.getD i [], g ∈ ws2.getD i []) : coarseS ws1 ws2 = true := by
  unfold coarseS rowIn
  rw [List.all_map]
  refine List.all_eq_true.mpr fun i _ => ?_
  show List.all _ _ = true
  rw [List.all_map]
  exact List.all_eq_true.mpr fun g hg => decide_eq_true (h i g hg)
theorem row_at {ws : List (List Str)} {i : Nat} (h : i < ws.length) : ws[i]? = some (ws.getD i []) := by
  rw [List.getD_eq_getElem?_getD, List.getElem?_eq_getElem h]
  rfl
def spCoarseQ (c : Wd) (C CW : Addr) : Sp := fun vs H Q E => ∃ (M : List Addr) (o : Addr) (x y : V) (m : Mac) (cs : List (List Nat)) (dw dv : PyData), vs = [.ref o, x, y] ∧ MacAt c.K C H o m cs ∧ macB m = true ∧ Rq c.K M H dw x ∧ wt dw ≤ 1000 ∧ Rq c.K M H dv y ∧ wt dv ≤ 1000 ∧
  (isWatchD m dw = true → isWatchD m dv = true → ∀ H' v, Go [] H H' → Q v H') ∧
  (isWatchD m dw = false → ∀ H' dd, Go [] H H' → H' dd = none → E (.ref CW) (some dd) (upd H' dd (exd dd [("value", x)]))) ∧
  (isWatchD m dw = true → isWatchD m dv = false → ∀ H' dd, Go [] H H' → H' dd = none → E (.ref CW) (some dd) (upd H' dd (exd dd [("value", y)])))
section
variable {c : Wd} {C CW : Addr}
abbrev s_coarser : Stmt := topS 33
abbrev N_coarser : List Str := ["machine", "one", "other", "page", "fewer", "more"]
abbrev P_coarser : List Str := ["machine", "one", "other"]
theorem sc_coarser : FnScope N_coarser P_coarser (defScope s_coarser) := ⟨rfl, rfl, rfl, by decide +kernel, rfl, by decide +kernel, by decide +kernel⟩
theorem ok_coarserQ (F : At c "coarser" "coarser" s_coarser P_coarser) (B : Bi c) (D_check_watch : Ok c "check_watch" 5 P_check_watch (spCheckQ c C CW)) : Ok c "coarser" 6 P_coarser (spCoarseQ c C CW) := by
  refine Ok.ofX F sc_coarser (fun vs H Q E h => ?_) (fun f cdv A out s H vs Q E hr h => ?_)
  · obtain ⟨M, o, x, y, m, cs, dw, dv, rfl, _⟩ := h
    rfl
  · obtain ⟨M, o, x, y, m, cs, dw, dv, rfl, hM, hB, hdw, hww, hdv, hwv, q1, q2, q3⟩ := h
    have hu1 := hu_of hr
    have hu5 := hr.u5
    have cl3 : m.clock.length ≤ 3 := by
      simp only [macB, clockB, Bool.and_eq_true, decide_eq_true_eq] at hB
      exact hB.2.1.2.1
    refine ⟨_, (pss_cons (ps_expr (pe_fE D_check_watch (hr.mono (by omega)) (passE (takes_of rfl rfl rfl rfl)) (by rfl) (pa_cons (pv 0) (pa_cons (pv 1) pa_nil))))
    (pss_cons (ps_expr (pe_fE D_check_watch (hr.mono (by omega)) (passE (takes_of rfl rfl rfl rfl)) (by rfl) (pa_cons (pv 0) (pa_cons (pv 2) pa_nil))))
    (pss_one (ps_ret (pe_callB (call_allU (K := c.K) rfl) (by rfl) B.all (by decide +kernel) (pa_cons (pe_lc2 (own := [("fewer", 4), ("more", 5), ("page", 3)]) (vs1 := [3]) rfl sc_coarser.nd (pi_zipU (K := c.K) (by rfl) B.zip (pa_cons (pv 1) (pa_cons (pv 2) pa_nil))) (blkOk_by (N := N_coarser) (sc := defScope s_coarser) (by decide +kernel)) (by decide) (fun _ _ _ _ _ => (pg_tupU (K := c.K) (n := 2) rfl (pgs_cons (pg_name (i := 4) sc_coarser.nd rfl (by first | exact Or.inl rfl | exact Or.inr rfl)) (pgs_cons (pg_name (i := 5) sc_coarser.nd rfl (by first | exact Or.inl rfl | exact Or.inr rfl)) pgs_nil)))) (fun _ _ _ _ _ => pts_nil) (fun _ _ _ _ _ => (pi_seq (K := c.K) (pv 4))) (fun _ _ _ _ _ => (pg_name (i := 3) sc_coarser.nd rfl (by first | exact Or.inl rfl | exact Or.inr rfl))) (fun _ _ _ _ _ => pts_nil) (fun _ _ _ _ _ => (pe_cmpR (op_inU (K := c.K) hu5) (pv 3) (pv 5) (by rfl)))) pa_nil)))))), ?_⟩
    refine ⟨_, rfl, _, rfl, M, o, x, m, cs, dw, rfl, hM, hdw, (by omega), fun hk H1 g1 => ⟨_, rfl, _, rfl, M, o, y, m, cs, dv, rfl, hM.go g1, Rq.go g1.wide _ _ hdv, (by omega), fun hk2 H2 g2 => ?_, fun hk2 H' dd g hdd => q3 hk hk2 H' dd (g1.trans g) hdd⟩, q2⟩
    obtain ⟨a, ws1, rfl, hW1, hwB1⟩ := watch_of hk hdw hww
    obtain ⟨b, ws2, rfl, hW2, hwB2⟩ := watch_of hk2 hdv hwv
    have hwB1' := hwB1
    have hwB2' := hwB2
    simp only [watchB, Bool.and_eq_true, decide_eq_true_eq, List.all_eq_true] at hwB1' hwB2'
    obtain ⟨l1, k1⟩ := hwB1'
    obtain ⟨l2, k2⟩ := hwB2'
    obtain ⟨as, v1, v2, v3⟩ := hW1.ex
    obtain ⟨bs, u1, u2, u3⟩ := hW2.ex
    have rfew : ∀ i, i < ws1.length → (ws1.getD i []).length ≤ 1000 := fun i hi => by
      have := k1 _ (List.mem_of_getElem? (row_at hi))
      simp only [watB, Bool.and_eq_true, decide_eq_true_eq] at this
      exact this.2.1
    have g02 := g1.trans g2
    refine ⟨_, rfl, _, rfl, a, b, _, _, rfl, .inr ⟨g02.sqT v1, g02.sqT u1, fun D hD => ?_⟩⟩
    refine lc2_map (walk_zipT (n := ws1.length) (by rw [List.length_map, List.length_map, v2, u2, l1, l2, Nat.min_self])) (fun i j ys _ => ys = (flatS ws1 ws2 i ++ (rowIn ws1 ws2 i).take j).map V.bl ∧ i ≤ ws1.length ∧ (j ≤ 1000 ∧ ys.length ≤ i * 1000 + j))
      yk_pair hD (fun H' g => ⟨g.sqT (g02.sqT v1), g.sqT (g02.sqT u1)⟩) ?_ ?_ ?_ ?_ ?_
    · exact ⟨rfl, Nat.zero_le _, Nat.zero_le _, Nat.le_refl _⟩
    · exact fun _ _ _ _ _ _ _ h => h
    · rintro i j ys H' ⟨_, h, h', h''⟩
      omega
    · rintro i y H4 H5 ys Fin hi g4 ⟨p1, p2, p3, p4⟩ ⟨T, x1, x2, rfl, hT, rfl, hx, hy⟩ gy dD fin
      have hx := hx
      have hy := hy
      dsimp only at hx hy
      rw [List.getElem?_map] at hx hy
      obtain ⟨aa, e1, rfl⟩ := Option.map_eq_some_iff.mp hx
      obtain ⟨ab, e2, rfl⟩ := Option.map_eq_some_iff.mp hy
      have r1 := v3 i aa _ e1 (row_at hi)
      have r2 := u3 i ab _ e2 (row_at (by omega))
      have g05 := g02.trans (g4.trans gy)
      refine ⟨T, _, rfl, SqT.of upd_same, rfl, _, _, rfl, _, _, rfl, ?_⟩
      refine ⟨rfl, rfl, ?_⟩
      refine .inl (.inr ⟨_, rfl, aa, rfl, ⟨_, g05.sqT r1⟩, fin _ _ _ ?_⟩)
      have rl : ((ws1.getD i []).map V.str).length = (ws1.getD i []).length := by simp
      have rw1 := rfew i hi
      refine ⟨_, _, _, walk_tup (xs := (ws1.getD i []).map V.str), yk_at, g4.trans gy, dD, ⟨p1, p2, p3, p4⟩, fun H6 g => g.sqT (g05.sqT r1), ?_, ?_⟩
      · rintro zs H6 ⟨s1, s2, s3, s4⟩
        rw [rl] at s1 s3 s4
        refine ⟨?_, by omega, by omega, by omega⟩
        rw [s1]
        show List.map V.bl (_ ++ _) = List.map V.bl ((flatS ws1 ws2 i ++ rowIn ws1 ws2 i) ++ List.take 0 _)
        rw [List.take_zero, List.append_nil, List.take_of_length_le (by unfold rowIn; rw [List.length_map]; exact Nat.le_refl _)]
      · rintro j z H6 H7 zs Fin2 hj g6 g46 ⟨s1, s2, s3, s4⟩ ⟨rfl, hz⟩ fin2
        obtain ⟨g, hg⟩ : ∃ g, (ws1.getD i [])[j]? = some g := ⟨_, List.getElem?_eq_getElem (by omega)⟩
        have ez : z = .str g := by
          rw [List.getElem?_map, hg] at hz
          exact (Option.some.inj hz).symm
        subst ez
        have h26 : SqT c.K H7 ab ((ws2.getD i []).map V.str) := (g02.trans g6).sqT r2
        refine ⟨rfl, _, rfl, _, rfl, r_inT h26 rfl (flat_strs _) ?_⟩
        rw [inV_strs]
        refine fin2 _ _ (Go.refl _ _) ⟨?_, s2, by omega, by simp; omega⟩
        rw [s1]
        have et : (rowIn ws1 ws2 i).take (j + 1) = (rowIn ws1 ws2 i).take j ++ [decide (g ∈ ws2.getD i [])] := by
          rw [List.take_add_one]
          unfold rowIn
          rw [List.getElem?_map, hg]
          rfl
        rw [et]
        simp
    · rintro H4 ys g4 ⟨p1, _⟩ hD4
      rw [List.take_zero, List.append_nil] at p1
      subst p1
      refine r_nil (r_all (SqL.of hD4) ?_)
      rw [flat_all]
      exact q1 hk hk2 H4 _ (g02.trans g4)
end
end Sd

/-! V09g: what is bent -/
namespace Sd
open PySem PySem.Spec PyProof.Rows L2 RZ RT LamX
mutual
/-- texts, and tuples of such -/
def ttB : PyData → Bool
  | .str _ => true
  | .tuple ds => ttA ds
  | _ => false
def ttA : List PyData → Bool
  | [] => true
  | d :: ds => ttB d && ttA ds
end
theorem ttA_mem : ∀ {ds : List PyData} {d : PyData}, ttA ds = true → d ∈ ds → ttB d = true
  | e :: ds, d, h, hd => by
    simp only [ttA, Bool.and_eq_true] at h
    rcases List.mem_cons.mp hd with z | z
    · rw [z]; exact h.1
    · exact ttA_mem h.2 z
theorem sg_of (s : String) : sgB (Str.ofString s) = true := by
  refine List.all_eq_true.mpr fun n hn => decide_eq_true ?_
  have h : (Str.ofString s).cps.toList = s.toList.map Char.toNat := by rw [Str.ofString_eq_toList]
  rw [h] at hn
  obtain ⟨ch, _, rfl⟩ := List.mem_map.mp hn
  exact ch.val.toNat_lt
theorem sm_int {B w p : Nat} {i : Int} (h : i.natAbs < B) (hw : 2 ≤ w) : Sm B w p (.int i) := ⟨decide_eq_true h, hw, Nat.zero_le _⟩
theorem sm_bl {B w p : Nat} {b : Bool} (hw : 1 ≤ w) : Sm B w p (.bool b) := ⟨rfl, hw, Nat.zero_le _⟩
theorem sm_str {B w p : Nat} {s : Str} (h : sgB s = true) (hw : s.length + 1 ≤ w) : Sm B w p (.str s) := ⟨h, hw, Nat.zero_le _⟩
theorem sg_app {a b : Str} (ha : sgB a = true) (hb : sgB b = true) : sgB (a ++ b) = true := by
  have e : (a ++ b).cps.toList = a.cps.toList ++ b.cps.toList := by
    show (a.cps ++ b.cps).toList = _
    rw [Array.toList_append]
  unfold sgB at *
  rw [e, List.all_append, ha, hb]
  rfl
theorem sg_cut {a : Str} (ha : sgB a = true) (lo hi : Option Int) : sgB (cutS a lo hi) = true ∧ (cutS a lo hi).length ≤ a.length := by
  unfold sgB at *
  refine ⟨List.all_eq_true.mpr fun n hn => ?_, ?_⟩
  · have : n ∈ a.cps.toList := List.mem_of_mem_drop (List.mem_of_mem_take (by simpa [cutS] using hn))
    exact List.all_eq_true.mp ha n this
  · show (List.toArray _).size ≤ a.cps.size
    rw [List.size_toArray, List.length_take, List.length_drop]
    have : a.cps.toList.length = a.cps.size := Array.length_toList
    omega
theorem sg_rep {a : Str} (ha : sgB a = true) (n : Nat) : sgB (repS a n) = true := by
  unfold sgB at *
  refine List.all_eq_true.mpr fun m hm => decide_eq_true ?_
  exact rep_mem (P := fun m => m < 16 ^ 8) (fun m hm => of_decide_eq_true (List.all_eq_true.mp ha m hm)) n m hm
theorem RqA.take {K : PySem.W.Frag} {M : List Addr} {H : Hp} : ∀ {ds : List PyData} {xs : List V} (k : Nat), RqA K M H ds xs → RqA K M H (ds.take k) (xs.take k)
  | [], xs, k, h => by
    simp only [RqA] at h
    subst h
    simp [RqA]
  | d :: ds, xs, 0, h => by simp [RqA]
  | d :: ds, xs, k + 1, h => by
    simp only [RqA] at h
    obtain ⟨v, vs, rfl, h1, h2⟩ := h
    simp only [List.take_succ_cons, RqA]
    exact ⟨v, _, rfl, h1, RqA.take k h2⟩
theorem RqA.drop {K : PySem.W.Frag} {M : List Addr} {H : Hp} : ∀ {ds : List PyData} {xs : List V} (k : Nat), RqA K M H ds xs → RqA K M H (ds.drop k) (xs.drop k)
  | [], xs, k, h => by
    simp only [RqA] at h
    subst h
    simp [RqA]
  | d :: ds, xs, 0, h => h
  | d :: ds, xs, k + 1, h => by
    simp only [RqA] at h
    obtain ⟨v, vs, rfl, h1, h2⟩ := h
    rw [List.drop_succ_cons, List.drop_succ_cons]
    exact RqA.drop k h2
theorem RqA.rev {K : PySem.W.Frag} {M : List Addr} {H : Hp} : ∀ {ds : List PyData} {xs : List V}, RqA K M H ds xs → RqA K M H ds.reverse xs.reverse
  | [], xs, h => by
    simp only [RqA] at h
    subst h
    simp [RqA]
  | d :: ds, xs, h => by
    simp only [RqA] at h
    obtain ⟨v, vs, rfl, h1, h2⟩ := h
    rw [List.reverse_cons, List.reverse_cons]
    exact (RqA.rev h2).app (by simp only [RqA]; exact ⟨v, [], rfl, h1, rfl⟩)
theorem wtA_at : ∀ {ds : List PyData} {k : Nat} {d : PyData}, ds[k]? = some d → wtA (ds.take k) + wt d + wtA (ds.drop (k + 1)) = wtA ds
  | [], k, d, h => by simp at h
  | e :: ds, 0, d, h => by
    have : e = d := by simpa using h
    subst this
    simp [wtA]
  | e :: ds, k + 1, d, h => by
    have := wtA_at (ds := ds) (k := k) (d := d) (by simpa using h)
    simp only [List.take_succ_cons, List.drop_succ_cons, wtA]
    omega
theorem wtA_rev : ∀ ds : List PyData, wtA ds.reverse = wtA ds
  | [] => rfl
  | d :: ds => by
    rw [List.reverse_cons, wtA_app, wtA_rev ds, wtA1]
    simp only [wtA]
    omega
/-- a tuple, or a list, of such -/
theorem sm_tup {B w p : Nat} {ds : List PyData} (h : ∀ d ∈ ds, okd B d = true ∧ d.depth + 1 ≤ p) (hw : 1 + wtA ds ≤ w) (hp : 1 ≤ p) : Sm B w p (.tuple ds) ∧ Sm B w p (.list ds) := by
  have a : okdA B ds = true := okdA_all.mpr fun d hd => (h d hd).1
  have b : PyData.depthAll ds + 1 ≤ p := by
    have : PyData.depthAll ds ≤ p - 1 := depA_le.mpr fun d hd => by have := (h d hd).2; omega
    omega
  exact ⟨⟨a, hw, b⟩, ⟨a, hw, b⟩⟩
theorem if_two {tc : TT} {a b u : TS} {D : Ends} {σ : L2.St} {H : Hp} {P : Hp → Prop} (leaf : ∀ H1, P H1 → a { D with nx := u D } σ H1) (main : (∀ H1, P H1 → a { D with nx := u D } σ H1) → tIfS tc a b { D with nx := u D } σ H) : tSeq (tIfS tc a b) u D σ H := main leaf
def spB9 (c : Wd) (k : Nat) : Sp := fun vs H Q _ => ∃ (p : Addr) (x : V) (n : Nat) (M : List Addr) (d : PyData) (w : Nat), vs = [.ref p, x, .int (k : Nat)] ∧ Pot H p n ∧ n + 40 * (k + 1) ≤ 2 ^ 28 ∧ p ∈ M ∧ (∀ a ∈ M, H a ≠ none) ∧ Rq c.K M H d x ∧ ttB d = true ∧ okd (10 ^ 18) d = true ∧ txB 20 d = true ∧ wt d ≤ w ∧ w ≤ 1000 ∧
  ∀ v d' H', Go [p] H H' → Pot H' p (n + 40 * (k + 1)) → Rq c.K M H' d' v → Sm (10 ^ 18) (2 * w + 100) (d.depth + 20) d' → txB 50 d' = true → Q v H'
def spB9P (c : Wd) : Nat → Sp
  | 0 => fun _ _ _ _ => False
  | k + 1 => spB9 c k
section
variable {c : Wd}
abbrev s__law_is_number : Stmt := topS 61
abbrev N__law_is_number : List Str := ["_law_thing"]
abbrev P__law_is_number : List Str := ["_law_thing"]
theorem sc__law_is_number : FnScope N__law_is_number P__law_is_number (defScope s__law_is_number) := ⟨rfl, rfl, rfl, by decide +kernel, rfl, by decide +kernel, by decide +kernel⟩
theorem ok_lnum (F : At c "_law_is_number" "_law_is_number" s__law_is_number P__law_is_number) (B : Bi c) : Ok c "_law_is_number" 1 P__law_is_number (spQ c isInteger) := by
  refine Ok.of F sc__law_is_number (fun vs H Q E h => ?_) (fun f cdv A out s H vs Q E hr h => ?_)
  · obtain ⟨M, v, d, rfl, _⟩ := h
    rfl
  · obtain ⟨M, v, d, rfl, hd, hw, q⟩ := h
    refine ⟨_, (pss_one (ps_ret (pe_and (pe_callB (call_isE (K := c.K)) (by rfl) B.isinstance (by decide +kernel) (pa_cons (pv 0) (pa_cons (pe_ty "int" "int" (by rfl) B.int (by decide +kernel)) pa_nil))) (pe_one (pe_not (pe_callB (call_isE (K := c.K)) (by rfl) B.isinstance (by decide +kernel) (pa_cons (pv 0) (pa_cons (pe_ty "bool" "bool" (by rfl) B.bool (by decide +kernel)) pa_nil)))))))), ?_⟩
    refine ⟨_, rfl, r_c (r_nil ⟨M, v, d, "int", _, rfl, hd, isa_int, ⟨_, rfl, ?_⟩⟩)⟩
    have q' := q H (Go.refl _ _)
    cases d <;> first
      | exact q'
      | exact ⟨_, rfl, r_c (r_nil ⟨M, v, _, "bool", _, rfl, hd, isa_bool, ⟨_, rfl, q'⟩⟩)⟩
abbrev s__law_bent : Stmt := topS 63
abbrev N__law_bent : List Str := ["_law_pot", "_law_thing", "_law_deep", "_law_at", "_law_way"]
abbrev P__law_bent : List Str := ["_law_pot", "_law_thing", "_law_deep"]
theorem sc__law_bent : FnScope N__law_bent P__law_bent (defScope s__law_bent) := ⟨rfl, rfl, rfl, by decide +kernel, rfl, by decide +kernel, by decide +kernel⟩
theorem ok_bent1 (F : At c "_law_bent" "_law_bent" s__law_bent P__law_bent) (B : Bi c) {k f : Nat} (hk : 4 ≤ k) (D__law_bent : Ok c "_law_bent" k P__law_bent (spB9P c f)) (D__law_take : Ok c "_law_take" 1 P__law_take spTake) (D__law_of : Ok c "_law_of" 2 P__law_of (spDrawn c)) (D__law_odd : Ok c "_law_odd" 3 P__law_odd (spOdd c)) (D__law_is_number : Ok c "_law_is_number" 1 P__law_is_number (spQ c isInteger)) :
    Ok c "_law_bent" (k + 1) P__law_bent (spB9 c f) := by
  refine Ok.of F sc__law_bent (fun vs H Q E h => ?_) (fun fn cdv A out s H vs Q E hr h => ?_)
  · obtain ⟨p, x, n, M, d, w, rfl, _⟩ := h
    rfl
  · obtain ⟨p, x, n, M, d, w, rfl, hp, hn, hpM, hM, hd, htt, hok, htx, hw, hw1, q⟩ := h
    have hu1 := hu_of hr
    have hu := hr.units
    have hu5 := hr.u5
    refine ⟨_, (pss_cons (ps_if (PW.pt (pw_or (pt_cmpR (L2.OpR.or (op_eqU (K := c.K) hu) (op_eqE (K := c.K) (M := M) hu1)) (pv 2) pe_int (nomark _)) (pw_or (pt_not (pt_val (pe_callB (call_isE (K := c.K)) (by rfl) B.isinstance (by decide +kernel) (pa_cons (pv 1) (pa_cons (pe_ty "tuple" "tuple" (by rfl) B.tuple (by decide +kernel)) pa_nil))))) (pw_or (pt_cmpR (L2.OpR.or (op_eqU (K := c.K) hu) (op_eqE (K := c.K) (M := M) hu1)) (pv 1) (pe_tup pa_nil) (nomark _)) (pw_or1 (pt_cmpR (L2.OpR.or (op_eqU (K := c.K) hu) (op_eqE (K := c.K) (M := M) hu1)) (pe_f D__law_take (hr.mono (by omega)) (by rfl) (pa_cons (pv 0) (pa_cons pe_int pa_nil))) pe_int (nomark _))))))) (pss_cons (ps_if (PW.pt (pw_and (pt_val (pe_f D__law_is_number (hr.mono (by omega)) (by rfl) (pa_cons (pv 1) pa_nil))) (pw_and1 (pt_cmpR (L2.OpR.or (op_eqU (K := c.K) hu) (op_eqE (K := c.K) (M := M) hu1)) (pe_f D__law_take (hr.mono (by omega)) (by rfl) (pa_cons (pv 0) (pa_cons pe_int pa_nil))) pe_int (nomark _))))) (pss_one (ps_ret (pe_f D__law_of (hr.mono (by omega)) (by rfl) (pa_cons (pv 0) (pa_cons (pe_lstS (pa_cons (pe_op (op_addQ (K := c.K)) (pv 1) pe_int) (pa_cons (pe_op op_subQ (pv 1) pe_int) (pa_cons (pe_callTy call_strQ (by rfl) B.str (by decide +kernel) (pa_cons (pv 1) pa_nil)) (pa_cons (pe_cmpR (L2.OpR.or (op_eqU (K := c.K) hu) (op_eqE (K := c.K) (M := M) hu1)) (pv 1) pe_int (nomark _)) pa_nil))))) pa_nil))))) pss_nil)
    (pss_one (ps_ret (pe_f D__law_odd (hr.mono (by omega)) (by rfl) (pa_cons (pv 0) pa_nil))))) pss_nil)
    (pss_cons (ps_par (i := 3) (j := 4) rfl sc__law_bent.nd rfl rfl (by decide) rfl rfl (pa_cons (pe_f D__law_take (hr.mono (by omega)) (by rfl) (pa_cons (pv 0) (pa_cons (pe_callB (call_lenU (K := c.K)) (by rfl) B.len (by decide +kernel) (pa_cons (pv 1) pa_nil)) pa_nil))) (pa_cons (pe_f D__law_take (hr.mono (by omega)) (by rfl) (pa_cons (pv 0) (pa_cons pe_int pa_nil))) pa_nil)) (by rfl))
    (pss_cons (ps_if (pt_cmpR (L2.OpR.or (op_eqU (K := c.K) hu) (op_eqE (K := c.K) (M := M) hu1)) (pv 4) pe_int (nomark _)) (pss_one (ps_ret (pe_op (op_addQ (K := c.K)) (pe_slice (sl_U (K := c.K)) (pv 1) po_none (po_some (pv 3))) (pe_slice (sl_U (K := c.K)) (pv 1) (po_some (pe_op (op_addQ (K := c.K)) (pv 3) pe_int)) po_none)))) pss_nil)
    (pss_cons (ps_if (pt_cmpR (L2.OpR.or (op_eqU (K := c.K) hu) (op_eqE (K := c.K) (M := M) hu1)) (pv 4) pe_int (nomark _)) (pss_one (ps_ret (pe_op (op_addQ (K := c.K)) (pe_op (op_addQ (K := c.K)) (pe_slice (sl_U (K := c.K)) (pv 1) po_none (po_some (pv 3))) (pe_slice (sl_U (K := c.K)) (pv 1) (po_some (pv 3)) (po_some (pe_op (op_addQ (K := c.K)) (pv 3) pe_int)))) (pe_slice (sl_U (K := c.K)) (pv 1) (po_some (pv 3)) po_none)))) pss_nil)
    (pss_cons (ps_if (pt_cmpR (L2.OpR.or (op_eqU (K := c.K) hu) (op_eqE (K := c.K) (M := M) hu1)) (pv 4) pe_int (nomark _)) (pss_one (ps_ret (pe_ixU (K := c.K) hu1 (pe_lstS (pa_cons (pe_callTy (call_lstQ (K := c.K)) (by rfl) B.list (by decide +kernel) (pa_cons (pv 1) pa_nil)) (pa_cons (pe_backT (K := c.K) (pv 1)) pa_nil))) (pe_f D__law_take (hr.mono (by omega)) (by rfl) (pa_cons (pv 0) (pa_cons pe_int pa_nil))) (fun _ _ => rfl) (fun _ _ => rfl)))) pss_nil)
    (pss_one (ps_ret (pe_op (op_addQ (K := c.K)) (pe_op (op_addQ (K := c.K)) (pe_slice (sl_U (K := c.K)) (pv 1) po_none (po_some (pv 3))) (pe_tup (pa_cons (pe_f D__law_bent (hr.mono (by omega)) (by rfl) (pa_cons (pv 0) (pa_cons (pe_ixU (K := c.K) hu1 (pv 1) (pv 3) (fun _ _ => rfl) (fun _ _ => rfl)) (pa_cons (pe_op op_subQ (pv 2) pe_int) pa_nil)))) pa_nil))) (pe_slice (sl_U (K := c.K)) (pv 1) (po_some (pe_op (op_addQ (K := c.K)) (pv 3) pe_int)) po_none))))))))), ?_⟩
    have gM : ∀ {G G' : Hp}, Go [p] G G' → Go M G G' := fun g => g.mono fun a ha => by rw [List.mem_singleton.mp ha]; exact hpM
    refine if_two (P := fun H1 => Go [p] H H1 ∧ Pot H1 p (n + 1)) ?_ fun leaf => ?_
    · rintro H1 ⟨g1, hp1⟩
      have hM1 := potM g1 ⟨_, hp1⟩ hM
      have hd1 := Rq.go (gM g1) d x hd
      refine ⟨_, rfl, M, x, d, rfl, hd1, (by omega), fun H2 g2 => ⟨_, rfl, ?_⟩⟩
      have en : isInteger d = false := by cases d <;> first | rfl | exact nomatch htt
      refine (if_neg (by rw [en]; simp)).mpr ?_
      have hp2 := hp1.go g2
      have g02 := g1.trans g2.wide
      exact ⟨_, rfl, p, n + 1, M, rfl, hp2, by omega, hpM, potM g02 ⟨_, hp2⟩ hM, fun v d' H' g hp' hr' sm tx => q v d' H' (g02.trans g) (hp'.up (by omega)) hr' (sm.up (by omega) (by omega)) (tx_up (by decide) d' tx)⟩
    have lf : ∀ H1, Go [p] H H1 → Pot H1 p (n + 1) → _ := fun H1 g h => leaf H1 ⟨g, h⟩
    refine ⟨_, rfl, .inl (.inl ⟨rfl, _, rfl, ?_⟩)⟩
    by_cases hf : f = 0
    · exact (if_pos (by subst hf; rfl)).mpr ((if_pos rfl).mpr (lf H (Go.refl _ _) (hp.up (by omega))))
    refine (if_neg (fun z => hf (by
      have z' := V.int.inj (of_decide_eq_true z)
      omega))).mpr ?_
    refine ⟨_, rfl, r_c (r_nil ⟨M, x, d, "tuple", _, rfl, hd, isa_tup, ⟨_, rfl, ?_⟩⟩)⟩
    by_cases ht : d.isTuple = true
    · obtain ⟨ds, rfl⟩ : ∃ ds, d = .tuple ds := by
        cases d <;> simp [PyData.isTuple] at ht
        exact ⟨_, rfl⟩
      have hd' := hd
      simp only [Rq] at hd'
      obtain ⟨a, xs, rfl, hs, hxs⟩ := hd'
      have hl := hxs.len
      refine (if_neg (by rw [ht]; simp)).mpr ?_
      refine ⟨_, rfl, Nat.zero_le _, fun e0 fe0 => .inr ⟨ds, e0, Rq.go (M := M) ((Go.new (M := []) fe0).wide) _ _ hd, rfl, SqT.of upd_same, _, rfl, ?_⟩⟩
      have g1 : Go [] H (upd H e0 (.tup [])) := Go.new fe0
      generalize (upd H e0 (.tup [])) = H1 at g1 ⊢
      have hp1 := hp.go g1
      by_cases he : ds = []
      · exact (if_pos (by rw [he]; rfl)).mpr ((if_pos rfl).mpr (lf H1 g1.wide (hp1.up (by omega))))
      have hw' : 1 + wtA ds ≤ w := hw
      have dl := len_wtA ds
      obtain ⟨txl, txall20⟩ := tx_of htx
      have txall : ∀ e ∈ ds, txB 50 e = true := fun e he' => tx_up (by decide) e (txall20 e he')
      have dpos : 1 ≤ ds.length := List.length_pos_iff.mpr he
      have hokall := okdA_all.mp (show okdA (10 ^ 18) ds = true from hok)
      have hdall := depA_le.mp (Nat.le_refl (PyData.depthAll ds))
      have depd : (PyData.tuple ds).depth = PyData.depthAll ds + 1 := rfl
      refine (if_neg (by cases ds with | nil => exact absurd rfl he | cons y ys => exact Bool.false_ne_true)).mpr ?_
      refine ⟨_, rfl, p, n, 6, rfl, hp1, by omega, by decide, by decide, fun r H2 hr2 g2 hp2 => .inl (.inl ⟨rfl, _, rfl, ?_⟩)⟩
      have g02 := g1.wide.trans g2
      by_cases h0 : r = 0
      · exact (if_pos (by rw [h0]; rfl)).mpr (lf H2 g02 hp2)
      refine (if_neg (fun z => h0 (by
        have z' := V.int.inj (of_decide_eq_true z)
        omega))).mpr ?_
      have hs2 := g02.sqT hs
      dsimp only [tNext]
      refine ⟨_, rfl, _, rfl, r_nil (r_lenT hs2 (r_nil ⟨p, n + 1, xs.length, rfl, hp2, by omega, by omega, by omega, fun k H3 hk g3 hp3 => ⟨_, rfl, p, n + 2, 9, rfl, hp3, by omega, by decide, by decide, fun wy H4 hwy g4 hp4 => r_nil ⟨_, _, rfl, ?_⟩⟩⟩))⟩
      have g04 := g02.trans (g3.trans g4)
      have hs4 := g04.sqT hs
      have hx4 := RqA.go (gM g04) ds xs hxs
      have hM4 := potM g04 ⟨_, hp4⟩ hM
      obtain ⟨y, hy⟩ : ∃ y, xs[k]? = some y := ⟨_, List.getElem?_eq_getElem hk⟩
      obtain ⟨dy, hdy, hry⟩ := RqA.at hx4 hy
      have hdm := List.mem_of_getElem? hdy
      have wsum := wtA_at hdy
      have ec1 : cutV xs none (some (k : Int)) = xs.take k := cut_to k
      have ec2 : cutV xs (some ((k : Int) + 1)) none = xs.drop (k + 1) := cut_from (k + 1)
      have ec3 : cutV xs (some (k : Int)) (some ((k : Int) + 1)) = (xs.drop k).take 1 := by
        have := cut_in (xs := xs) k (k + 1)
        rw [List.drop_take, Nat.add_sub_cancel_left] at this
        exact this
      have ec4 : cutV xs (some (k : Int)) none = xs.drop k := cut_from k
      have e1 : (ds.drop k).take 1 = [dy] := by
        have hk' := (List.getElem?_eq_some_iff.mp hdy).1
        rw [List.drop_eq_getElem_cons hk']
        rw [List.getElem?_eq_getElem hk'] at hdy
        rw [Option.some.inj hdy]
        rfl
      have e2 : ds.drop k = dy :: ds.drop (k + 1) := by
        have hk' := (List.getElem?_eq_some_iff.mp hdy).1
        rw [List.drop_eq_getElem_cons hk']
        rw [List.getElem?_eq_getElem hk'] at hdy
        rw [Option.some.inj hdy]
      have tl : (xs.take k).length ≤ xs.length := by rw [List.length_take]; omega
      have dl2 : (xs.drop (k + 1)).length ≤ xs.length := by rw [List.length_drop]; omega
      have dl3 : (xs.drop k).length ≤ xs.length := by rw [List.length_drop]; omega
      have k1 : (List.take 1 (xs.drop k)).length ≤ 1 := by rw [List.length_take]; omega
      have up : ∀ e ∈ ds, okd (10 ^ 18) e = true ∧ e.depth + 1 ≤ PyData.depthAll ds + 1 + 20 := fun e he' => ⟨hokall e he', by have := hdall e he'; omega⟩
      rw [depd] at q
      dsimp only [gName, tSeq, tAsg]
      refine ⟨_, rfl, .inl (.inl ⟨rfl, _, rfl, ?_⟩)⟩
      by_cases w0 : wy = 0
      · refine (if_pos (by rw [w0]; rfl)).mpr ?_
        refine ⟨_, rfl, _, rfl, _, rfl, r_slT hs4 fun c1 G1 i1 hc1 => ⟨_, rfl, _, rfl, .inl (r_addI ⟨_, rfl, r_slT (i1.sqT hs4) fun c2 G2 i2 hc2 => ?_⟩)⟩⟩
        rw [ec1] at hc1
        rw [ec2] at hc2
        refine .inl (r_catT (i2.sqT hc1) hc2 (by rw [sizeLine_eq]; omega) fun t G3 i3 ht => ?_)
        have i123 := i1.trans (i2.trans i3)
        have all3 := RqA.go (M := M) i123.wide ds xs hx4
        refine q _ (.tuple (ds.take k ++ ds.drop (k + 1))) _ (g04.trans i123.wide) ((hp4.go i123).up (by omega)) (by simp only [Rq]; exact ⟨t, _, rfl, ht, (RqA.take k all3).app (RqA.drop (k + 1) all3)⟩) (sm_tup (fun e he' => ?_) ?_ (by omega)).1 ?_
        · rcases List.mem_append.mp he' with z | z
          · exact up e (List.mem_of_mem_take z)
          · exact up e (List.mem_of_mem_drop z)
        · rw [wtA_app]
          omega
        · refine (tx_tup (by simp only [List.length_append, List.length_take, List.length_drop, List.length_cons, List.length_nil]; omega) fun e he' => ?_).1
          rcases List.mem_append.mp he' with z | z
          · exact txall e (List.mem_of_mem_take z)
          · exact txall e (List.mem_of_mem_drop z)
      refine (if_neg (fun z => w0 (by
        have z' := V.int.inj (of_decide_eq_true z)
        omega))).mpr ?_
      dsimp only [tNext]
      refine ⟨_, rfl, .inl (.inl ⟨rfl, _, rfl, ?_⟩)⟩
      by_cases w1 : wy = 1
      · refine (if_pos (by rw [w1]; rfl)).mpr ?_
        refine ⟨_, rfl, _, rfl, _, rfl, r_slT hs4 fun c1 G1 i1 hc1 => ⟨_, rfl, _, rfl, _, rfl, _, rfl, .inl (r_addI ⟨_, rfl, r_slT (i1.sqT hs4) fun c2 G2 i2 hc2 => ?_⟩)⟩⟩
        rw [ec1] at hc1
        rw [ec3] at hc2
        refine .inl (r_catT (i2.sqT hc1) hc2 (by rw [sizeLine_eq]; omega) fun t G3 i3 ht => ?_)
        refine ⟨_, rfl, _, rfl, _, rfl, r_slT ((i1.trans (i2.trans i3)).sqT hs4) fun c3 G4 i4 hc3 => ?_⟩
        rw [ec4] at hc3
        refine .inl (r_catT (i4.sqT ht) hc3 (by rw [sizeLine_eq, List.length_append]; omega) fun t2 G5 i5 ht2 => ?_)
        have i15 := i1.trans (i2.trans (i3.trans (i4.trans i5)))
        have all3 := RqA.go (M := M) i15.wide ds xs hx4
        refine q _ (.tuple (ds.take k ++ (ds.drop k).take 1 ++ ds.drop k)) _ (g04.trans i15.wide) ((hp4.go i15).up (by omega)) (by simp only [Rq]; exact ⟨t2, _, rfl, ht2, ((RqA.take k all3).app (RqA.take 1 (RqA.drop k all3))).app (RqA.drop k all3)⟩) (sm_tup (fun e he' => ?_) ?_ (by omega)).1 ?_
        · rcases List.mem_append.mp he' with z | z
          · rcases List.mem_append.mp z with z | z
            · exact up e (List.mem_of_mem_take z)
            · exact up e (List.mem_of_mem_drop (List.mem_of_mem_take z))
          · exact up e (List.mem_of_mem_drop z)
        · rw [wtA_app, wtA_app, e1, e2, wtA1]
          simp only [wtA]
          omega
        · refine (tx_tup (by simp only [List.length_append, List.length_take, List.length_drop, List.length_cons, List.length_nil]; omega) fun e he' => ?_).1
          rcases List.mem_append.mp he' with z | z
          · rcases List.mem_append.mp z with z | z
            · exact txall e (List.mem_of_mem_take z)
            · exact txall e (List.mem_of_mem_drop (List.mem_of_mem_take z))
          · exact txall e (List.mem_of_mem_drop z)
      refine (if_neg (fun z => w1 (by
        have z' := V.int.inj (of_decide_eq_true z)
        omega))).mpr ?_
      refine ⟨_, rfl, .inl (.inl ⟨rfl, _, rfl, ?_⟩)⟩
      by_cases w2 : wy = 2
      · refine (if_pos (by rw [w2]; rfl)).mpr ?_
        refine .inl ⟨_, rfl, r_nil ⟨a, xs, rfl, hs4, fun l2 hl2 ap => ?_⟩⟩
        have gl : Go [] H4 (upd H4 l2 (.lst xs)) := Go.new hl2
        have h2 : (upd H4 l2 (.lst xs)) l2 = some (.lst xs) := upd_same
        have nM : l2 ∉ M := fun z => hM4 l2 z hl2
        generalize (upd H4 l2 (.lst xs)) = H5 at gl h2 ⊢
        refine ⟨_, rfl, a, xs, rfl, gl.sqT hs4, fun t2 ht2 => r_nil ⟨by show 2 ≤ sizeLine; decide, fun L fL apL => ?_⟩⟩
        have gt : Go [] H5 (upd H5 t2 (.tup xs.reverse)) := Go.new ht2
        have gL : Go [] (upd H5 t2 (.tup xs.reverse)) (upd (upd H5 t2 (.tup xs.reverse)) L (.lst [.ref l2, .ref t2])) := Go.new fL
        have hL : (upd (upd H5 t2 (.tup xs.reverse)) L (.lst [.ref l2, .ref t2])) L = some (.lst [.ref l2, .ref t2]) := upd_same
        have h22 := (gt.trans gL).old l2 _ (by simp) h2
        have ht22 : SqT c.K (upd (upd H5 t2 (.tup xs.reverse)) L (.lst [.ref l2, .ref t2])) t2 xs.reverse := gL.sqT (SqT.of upd_same)
        have g46 := gl.trans (gt.trans gL)
        generalize (upd (upd H5 t2 (.tup xs.reverse)) L (.lst [.ref l2, .ref t2])) = H6 at hL h22 ht22 g46 ⊢
        have nLp : L ≠ p := fun e => by
          obtain ⟨_, _, _, e1, _⟩ := hp4.go g46
          rw [← e, hL] at e1
          cases e1
        have nl2p : l2 ≠ p := fun e => nM (e ▸ hpM)
        refine ⟨_, rfl, p, n + 3, 2, rfl, hp4.go g46, by omega, by decide, by decide, fun r2 H7 hr2' g7 hp7 => ?_⟩
        have g47 := g46.wide.trans g7
        have all7 := RqA.go (gM g47) ds xs hx4
        rcases (by omega : r2 = 0 ∨ r2 = 1) with e | e <;> subst e
        · refine ixL (i := 0) (g7.old L _ (by simpa using nLp) hL) rfl (q _ (.list ds) _ (g04.trans g47) (hp7.up (by omega)) ?_ (sm_tup up (by omega) (by omega)).2 (tx_tup (by omega) txall).2)
          simp only [Rq]
          exact ⟨l2, xs, rfl, nM, ap, g7.old l2 _ (by simpa using nl2p) h22, all7⟩
        · refine ixL (i := 1) (g7.old L _ (by simpa using nLp) hL) rfl (q _ (.tuple ds.reverse) _ (g04.trans g47) (hp7.up (by omega)) ?_ (sm_tup (fun e he' => up e (List.mem_reverse.mp he')) (by rw [wtA_rev]; omega) (by omega)).1 (tx_tup (by rw [List.length_reverse]; omega) fun e he' => txall e (List.mem_reverse.mp he')).1)
          simp only [Rq]
          exact ⟨t2, _, rfl, g7.sqT ht22, RqA.rev all7⟩
      refine (if_neg (fun z => w2 (by
        have z' := V.int.inj (of_decide_eq_true z)
        omega))).mpr ?_
      obtain ⟨f', rfl⟩ : ∃ f', f = f' + 1 := ⟨f - 1, by omega⟩
      refine ⟨_, rfl, _, rfl, _, rfl, r_slT hs4 fun b1 H5 g5 hb1 => ?_⟩
      rw [ec1] at hb1
      refine ⟨_, rfl, .inl ⟨_, rfl, _, rfl, ixT (i := k) (g5.sqT hs4) hy ?_⟩⟩
      have ef : ((f' + 1 : Nat) : Int) - 1 = ((f' : Nat) : Int) := by omega
      have hp5 := hp4.go g5
      have g05 := g04.trans g5.wide
      have hM5 := potM g05 ⟨_, hp5⟩ hM
      refine ⟨_, rfl, .inl ⟨_, _, rfl, rfl, r_nil ⟨p, y, n + 3, M, dy, wt dy, by show [V.ref p, y, V.int (((f' + 1 : Nat) : Int) - 1)] = _; rw [ef], hp5, by omega, hpM, hM5, Rq.go g5.wide dy y hry, ttA_mem htt hdm, hokall dy hdm, txall20 dy hdm, Nat.le_refl _, by omega, fun v d' H6 g6 hp6 hr6 sm6 tx6 => ?_⟩⟩⟩
      refine r_nil ⟨by show 1 ≤ sizeLine; decide, fun T fT => ?_⟩
      have gT : Go [] H6 (upd H6 T (.tup [v])) := Go.new fT
      have hT : SqT c.K (upd H6 T (.tup [v])) T [v] := SqT.of upd_same
      have hp7 := hp6.go gT
      have hb17 := gT.sqT (g6.sqT hb1)
      have g57 := g6.trans gT.wide
      have hr7 := Rq.go (M := M) gT.wide d' v hr6
      generalize (upd H6 T (.tup [v])) = H7 at gT hT hp7 hb17 g57 hr7 ⊢
      refine .inl (r_catT hb17 hT (by rw [sizeLine_eq]; simp only [List.length_cons, List.length_nil]; omega) fun c1 H8 g8 hc1 => ?_)
      have g58 := g57.trans g8.wide
      refine ⟨_, rfl, _, rfl, .inl (r_addI ⟨_, rfl, r_slT (g58.sqT (g5.sqT hs4)) fun b2 H9 g9 hb2 => ?_⟩)⟩
      rw [ec2] at hb2
      refine .inl (r_catT (g9.sqT hc1) hb2 (by rw [sizeLine_eq]; simp only [List.length_append, List.length_cons, List.length_nil]; omega) fun nw H10 g10 hnw => ?_)
      have g710 := g8.trans (g9.trans g10)
      have g410 : Go [p] H4 H10 := g5.wide.trans (g57.trans g710.wide)
      have hx10 := RqA.go (gM g410) ds xs hx4
      refine q _ (.tuple (ds.take k ++ [d'] ++ ds.drop (k + 1))) _ (g04.trans g410) ((hp7.go g710).up (by omega)) ?_ ?_ ?_
      · simp only [Rq]
        refine ⟨nw, _, rfl, hnw, ((RqA.take k hx10).app ?_).app (RqA.drop (k + 1) hx10)⟩
        simp only [RqA]
        exact ⟨v, [], rfl, Rq.go g710.wide d' v hr7, rfl⟩
      · have nw5 := sm6.wt
        have nd5 := sm6.dp
        have hd5 := hdall dy hdm
        refine (sm_tup (fun e he' => ?_) ?_ (by omega)).1
        · rcases List.mem_append.mp he' with z | z
          · rcases List.mem_append.mp z with z | z
            · exact up e (List.mem_of_mem_take z)
            · rw [List.mem_singleton.mp z]
              exact ⟨sm6.ok, by omega⟩
          · exact up e (List.mem_of_mem_drop z)
        · rw [wtA_app, wtA_app, wtA1]
          omega
      · refine (tx_tup (by simp only [List.length_append, List.length_take, List.length_drop, List.length_cons, List.length_nil]; omega) fun e he' => ?_).1
        rcases List.mem_append.mp he' with z | z
        · rcases List.mem_append.mp z with z | z
          · exact txall e (List.mem_of_mem_take z)
          · rw [List.mem_singleton.mp z]
            exact tx6
        · exact txall e (List.mem_of_mem_drop z)
    · exact (if_pos (by simpa using ht)).mpr ((if_pos rfl).mpr (lf H (Go.refl _ _) (hp.up (by omega))))
theorem ok_bent0 (F : At c "_law_bent" "_law_bent" s__law_bent P__law_bent) : Ok c "_law_bent" 4 P__law_bent (spB9P c 0) := by
  refine Ok.of F sc__law_bent (fun vs H Q E h => ?_) (fun fn cdv A out s H vs Q E hr h => ?_)
  · exact False.elim h
  · exact False.elim h
theorem ok_bent (F : At c "_law_bent" "_law_bent" s__law_bent P__law_bent) (B : Bi c) (D__law_take : Ok c "_law_take" 1 P__law_take spTake) (D__law_of : Ok c "_law_of" 2 P__law_of (spDrawn c)) (D__law_odd : Ok c "_law_odd" 3 P__law_odd (spOdd c)) (D__law_is_number : Ok c "_law_is_number" 1 P__law_is_number (spQ c isInteger)) : ∀ f, Ok c "_law_bent" (5 + f) P__law_bent (spB9 c f)
  | 0 => ok_bent1 F B (k := 4) (f := 0) (by decide) (ok_bent0 F) D__law_take D__law_of D__law_odd D__law_is_number
  | f + 1 => ok_bent1 F B (k := 5 + f) (f := f + 1) (by omega) (ok_bent F B D__law_take D__law_of D__law_odd D__law_is_number f) D__law_take D__law_of D__law_odd D__law_is_number
end
end Sd

/-! V09h: the law's look at runs -/
namespace Sd
open PySem PySem.Spec PyProof.Rows L2 RZ RT LamX
theorem all_strs : ∀ {ds : List PyData}, (∀ d ∈ ds, d.isStr = true) → ∃ zs : List Str, ds = zs.map PyData.str
  | [], _ => ⟨[], rfl⟩
  | d :: ds, h => by
    obtain ⟨zs, e⟩ := all_strs (ds := ds) fun x hx => h x (List.mem_cons_of_mem _ hx)
    have hd := h d List.mem_cons_self
    cases d with
    | str z => exact ⟨z :: zs, by rw [e]; rfl⟩
    | _ => exact nomatch hd
def spLRoad (c : Wd) : Sp := fun vs H Q _ => ∃ (a : Addr) (x : V) (m : Mac) (M : List Addr) (d : PyData), vs = [.ref a, x] ∧ LoreAt c.K H a m ∧ DrawnM m ∧ Rq c.K M H d x ∧ (∀ ds, d = .tuple ds → ds.length ≤ 10000) ∧ ∀ H', Go [] H H' → Q (.bl (isRunD m d)) H'
section
variable {c : Wd}
abbrev s__law_is_run_of : Stmt := topS 64
abbrev N__law_is_run_of : List Str := ["_law_lore_here", "_law_thing", "_law_names_here", "_law_step_here", "_law_one", "_law_later_here"]
abbrev P__law_is_run_of : List Str := ["_law_lore_here", "_law_thing"]
theorem sc__law_is_run_of : FnScope N__law_is_run_of P__law_is_run_of (defScope s__law_is_run_of) := ⟨rfl, rfl, rfl, by decide +kernel, rfl, by decide +kernel, by decide +kernel⟩
theorem ok_lroad (F : At c "_law_is_run_of" "_law_is_run_of" s__law_is_run_of P__law_is_run_of) (B : Bi c) (D__law_later : Ok c "_law_later" 2 P__law_later (spLLater c)) : Ok c "_law_is_run_of" 3 P__law_is_run_of (spLRoad c) := by
  refine Ok.of F sc__law_is_run_of (fun vs H Q E h => ?_) (fun f cdv A out s H vs Q E hr h => ?_)
  · obtain ⟨a, x, m, M, d, rfl, _⟩ := h
    rfl
  · obtain ⟨a, x, m, M, d, rfl, hL, hD, hd, hfew, q⟩ := h
    have hu1 := hu_of hr
    have hu := hr.units
    have hu5 := hr.u5
    have hB := drawn_right hD
    obtain ⟨a1, a2, a3, a5, h1, ⟨vs, k1, k2, k3⟩, _⟩ := id hL.ex
    have hsl : m.steps.length ≤ 8 := by
      simp only [macB, stepsB, Bool.and_eq_true, decide_eq_true_eq] at hB
      exact hB.1.2.1
    refine ⟨_, (pss_cons (ps_set (i := 2) sc__law_is_run_of.nd rfl (by first | exact Or.inl rfl | exact Or.inr rfl) (pe_lc (own := [("_law_step_here", 3)]) rfl sc__law_is_run_of.nd (pi_seq (K := c.K) (pe_ixU (K := c.K) hu1 (pv 0) pe_str (fun _ _ => rfl) (fun _ _ => rfl))) (blkOk_by (N := N__law_is_run_of) (sc := defScope s__law_is_run_of) (by decide +kernel)) (fun _ _ _ _ _ => (pg_name (i := 3) sc__law_is_run_of.nd rfl (by first | exact Or.inl rfl | exact Or.inr rfl))) (fun _ _ _ _ _ => pts_nil) (fun _ _ _ _ _ => (pe_ixU (K := c.K) hu1 (pv 3) pe_int (fun _ _ => rfl) (fun _ _ => rfl)))))
    (pss_cons (ps_if (PW.pt (pw_or (pt_not (pt_val (pe_callB (call_isE (K := c.K)) (by rfl) B.isinstance (by decide +kernel) (pa_cons (pv 1) (pa_cons (pe_ty "tuple" "tuple" (by rfl) B.tuple (by decide +kernel)) pa_nil))))) (pw_or (pt_cmpR (op_eqE (K := c.K) (M := M) hu1) (pv 1) (pe_tup pa_nil) (nomark _)) (pw_or1 (pt_not (pt_val (pe_callB (call_allU (K := c.K) rfl) (by rfl) B.all (by decide +kernel) (pa_cons (pe_lc (own := [("_law_one", 4)]) rfl sc__law_is_run_of.nd (pi_seq (K := c.K) (pv 1)) (blkOk_by (N := N__law_is_run_of) (sc := defScope s__law_is_run_of) (by decide +kernel)) (fun _ _ _ _ _ => (pg_name (i := 4) sc__law_is_run_of.nd rfl (by first | exact Or.inl rfl | exact Or.inr rfl))) (fun _ _ _ _ _ => pts_nil) (fun _ _ _ _ _ => (pe_callB (call_isE (K := c.K)) (by rfl) B.isinstance (by decide +kernel) (pa_cons (pv 4) (pa_cons (pe_ty "str" "str" (by rfl) B.str (by decide +kernel)) pa_nil))))) pa_nil)))))))) (pss_one (ps_ret pe_bl)) pss_nil)
    (pss_cons (ps_if (PW.pt (pw_or (pt_not (pt_val (pe_callB (call_allU (K := c.K) rfl) (by rfl) B.all (by decide +kernel) (pa_cons (pe_lc (own := [("_law_one", 4)]) rfl sc__law_is_run_of.nd (pi_seq (K := c.K) (pv 1)) (blkOk_by (N := N__law_is_run_of) (sc := defScope s__law_is_run_of) (by decide +kernel)) (fun _ _ _ _ _ => (pg_name (i := 4) sc__law_is_run_of.nd rfl (by first | exact Or.inl rfl | exact Or.inr rfl))) (fun _ _ _ _ _ => pts_nil) (fun _ _ _ _ _ => (pe_cmpR (op_inU (K := c.K) hu5) (pv 4) (pv 2) (by rfl)))) pa_nil)))) (pw_or1 (pt_cmpR (op_neU (K := c.K) hu) (pe_ixU (K := c.K) hu1 (pv 1) pe_int (fun _ _ => rfl) (fun _ _ => rfl)) (pe_ixU (K := c.K) hu1 (pv 2) pe_int (fun _ _ => rfl) (fun _ _ => rfl)) (nomark _))))) (pss_one (ps_ret pe_bl)) pss_nil)
    (pss_one (ps_ret (pe_callB (call_allU (K := c.K) rfl) (by rfl) B.all (by decide +kernel) (pa_cons (pe_lc (own := [("_law_one", 4), ("_law_later_here", 5)]) rfl sc__law_is_run_of.nd (pi_zipU (K := c.K) (by rfl) B.zip (pa_cons (pv 1) (pa_cons (pe_slice (sl_U (K := c.K)) (pv 1) (po_some pe_int) po_none) pa_nil))) (blkOk_by (N := N__law_is_run_of) (sc := defScope s__law_is_run_of) (by decide +kernel)) (fun _ _ _ _ _ => (pg_tupU (K := c.K) (n := 2) rfl (pgs_cons (pg_name (i := 4) sc__law_is_run_of.nd rfl (by first | exact Or.inl rfl | exact Or.inr rfl)) (pgs_cons (pg_name (i := 5) sc__law_is_run_of.nd rfl (by first | exact Or.inl rfl | exact Or.inr rfl)) pgs_nil)))) (fun _ _ _ _ _ => pts_nil) (fun _ _ _ _ _ => (pe_cmpR (op_inU (K := c.K) hu5) (pv 5) (pe_f D__law_later (hr.mono (by decide)) (by rfl) (pa_cons (pv 0) (pa_cons (pv 4) pa_nil))) (by rfl)))) pa_nil))))))), ?_⟩
    refine .inl (.inr (.inr ⟨_, rfl, a, _, rfl, lget h1 lore_steps, a1, rfl, ⟨_, k1⟩, fun D hD' => ?_⟩))
    refine lc_map (walk_tup (xs := vs)) [] (fun _ _ => True) (fun i y _ => ∃ st : Stp, m.steps[i]? = some st ∧ y = .str st.name) yk_at
      (by omega) hD' (fun _ h => nomatch h) (fun H' g => g.sqT k1) trivial (fun _ _ _ _ _ => trivial) (fun _ _ _ _ _ _ h => h) ?_ ?_
    · rintro i y H2 H3 Fin hi g2 g3 _ ⟨rfl, hx⟩ fin
      obtain ⟨st, hst⟩ : ∃ s, m.steps[i]? = some s := ⟨_, List.getElem?_eq_getElem (by omega)⟩
      obtain ⟨b, fl, rfl, e1, e2⟩ := (k3 i y st hx hst).go g2
      exact ⟨rfl, .inl ⟨_, rfl, ixT (i := 0) e1 rfl (fin _ _ (Go.refl _ _) trivial ⟨st, hst, rfl⟩)⟩⟩
    intro H1 ys g1 _ hD1 hl1 hr1
    have ey : ys = (m.steps.map Stp.name).map V.str := by
      rw [List.map_map]
      exact list_of (by omega) fun i y e => by obtain ⟨s, h, h'⟩ := hr1 i y e; exact ⟨s, h, h'⟩
    subst ey
    have hd1 := Rq.go (M := M) g1.wide d x hd
    refine ⟨_, rfl, r_c (r_nil ⟨M, x, d, "tuple", _, rfl, hd1, isa_tup, ⟨_, rfl, ?_⟩⟩)⟩
    by_cases ht : d.isTuple = true
    · obtain ⟨ds, rfl⟩ : ∃ ds, d = .tuple ds := by
        cases d <;> simp [PyData.isTuple] at ht
        exact ⟨_, rfl⟩
      have hd' := hd1
      simp only [Rq] at hd'
      obtain ⟨r, xs, rfl, hs, hxs⟩ := hd'
      have hl := hxs.len
      have hf := hfew ds rfl
      refine (if_neg (by simp [PyData.isTuple])).mpr ?_
      refine ⟨_, rfl, Nat.zero_le _, fun e0 fe0 => ⟨ds, e0, Rq.go (M := M) ((Go.new (M := []) fe0).wide) _ _ hd1, rfl, SqT.of upd_same, _, rfl, ?_⟩⟩
      have g2 : Go [] H1 (upd H1 e0 (.tup [])) := Go.new fe0
      generalize (upd H1 e0 (.tup [])) = H2 at g2 ⊢
      have hs2 := g2.sqT hs
      have hnm := g2.old D _ (fun z => nomatch z) hD1
      have g02 := g1.trans g2
      cases ds with
      | nil => exact (if_pos rfl).mpr ((if_pos rfl).mpr (q H2 g02))
      | cons d0 ds =>
        refine (if_neg (by simp)).mpr ?_
        refine .inl (.inr ⟨_, rfl, r, rfl, ⟨_, hs2⟩, fun D2 hD2 => ?_⟩)
        refine lc_map (walk_tup (xs := xs)) [] (fun _ _ => True) (fun i y _ => ∃ dd, (d0 :: ds)[i]? = some dd ∧ y = .bl dd.isStr) yk_at
          (by omega) hD2 (fun _ h => nomatch h) (fun H' g => g.sqT hs2) trivial (fun _ _ _ _ _ => trivial) (fun _ _ _ _ _ _ h => h) ?_ ?_
        · rintro i y H3 H4 Fin hi g3 g4 _ ⟨rfl, hx⟩ fin
          obtain ⟨dy, hdy, hry⟩ := RqA.at hxs hx
          have hry' := Rq.go (M := M) ((g2.trans g3).wide) dy y hry
          exact ⟨rfl, _, rfl, r_c (r_nil ⟨M, y, dy, "str", _, rfl, hry', isa_str, fin _ _ (Go.refl _ _) trivial ⟨_, hdy, rfl⟩⟩)⟩
        intro H3a ysa g3a _ hD3a hl3a hr3a
        have eya : ysa = ((d0 :: ds).map PyData.isStr).map V.bl := by
          rw [List.map_map]
          exact list_of (by omega) fun i y e => by obtain ⟨s, h, h'⟩ := hr3a i y e; exact ⟨s, h, h'⟩
        subst eya
        refine r_nil (r_all (SqL.of hD3a) ⟨_, rfl, ?_⟩)
        have g03a := g02.trans g3a
        have noRun : (∀ z : Str, False) ∨ True := .inr trivial
        by_cases halls : ((d0 :: ds).map PyData.isStr).all id = true
        · refine (if_neg (by rw [halls]; simp)).mpr ?_
          have hst : ∀ y ∈ d0 :: ds, y.isStr = true := fun y hy => List.all_eq_true.mp halls _ (List.mem_map.mpr ⟨y, hy, rfl⟩)
          obtain ⟨zs, ez⟩ := all_strs hst
          rw [ez] at hxs
          have exs := rq_strs hxs
          subst exs
          have hnm := g3a.old D _ (fun z => nomatch z) hnm
          have hs2 := g3a.sqT hs2
          have g02 := g03a
          refine .inl (.inr ⟨_, rfl, r, rfl, ⟨_, hs2⟩, fun D2 hD2 => ?_⟩)
          refine lc_map (walk_tup (xs := zs.map V.str)) [] (fun _ _ => True) (fun i y _ => ∃ z, zs[i]? = some z ∧ y = .bl (decide (z ∈ m.steps.map Stp.name))) yk_at
            (by omega) hD2 (fun _ h => nomatch h) (fun H' g => g.sqT hs2) trivial (fun _ _ _ _ _ => trivial) (fun _ _ _ _ _ _ h => h) ?_ ?_
          · rintro i y H3 H4 Fin hi g3 g4 _ ⟨rfl, hx⟩ fin
            rw [List.getElem?_map] at hx
            obtain ⟨z, hz, rfl⟩ := Option.map_eq_some_iff.mp hx
            refine ⟨rfl, _, rfl, _, rfl, r_inL (SqL.of (g3.old D _ (fun z => nomatch z) hnm)) rfl (flat_strs _) ?_⟩
            rw [inV_strs]
            exact fin _ _ (Go.refl _ _) trivial ⟨_, hz, rfl⟩
          intro H3 ys g3 _ hD3 hl3 hr3
          have ey : ys = (zs.map fun z => decide (z ∈ m.steps.map Stp.name)).map V.bl := by
            rw [List.map_map]
            exact list_of (by rw [hl3, List.length_map]) fun i y e => by obtain ⟨s, h, h'⟩ := hr3 i y e; exact ⟨s, h, h'⟩
          subst ey
          refine r_nil (r_all (SqL.of hD3) ⟨_, rfl, ?_⟩)
          have g03 := g02.trans g3
          by_cases hall : (zs.map fun z => decide (z ∈ m.steps.map Stp.name)).all id = true
          · refine (if_neg (by rw [hall]; simp)).mpr ?_
            have hzn : ∀ z ∈ zs, z ∈ m.steps.map Stp.name := fun z hz => of_decide_eq_true (List.all_eq_true.mp hall _ (List.mem_map.mpr ⟨z, hz, rfl⟩))
            cases zs with
            | nil => cases ez
            | cons z0 zr =>
              have ed : isRunD m (.tuple (d0 :: ds)) = (decide (z0 = name0 m) && (((z0 :: zr).zip zr).map fun p => folS m p.1 p.2).all id) := by
                rw [ez]
                show ((z0 == name0 m) && onB m (name0 m) (zr.map PyData.str)) = _
                by_cases e : z0 = name0 m
                · rw [← e, on_pairs]
                  simp
                · simp [e]
              rw [ed] at q
              have hs3 := g3.sqT hs2
              have hn3 := g3.old D _ (fun z => nomatch z) hnm
              obtain ⟨s0, hs0⟩ : ∃ s, m.steps[0]? = some s := by
                simp only [macB, stepsB, Bool.and_eq_true, decide_eq_true_eq] at hB
                exact ⟨_, List.getElem?_eq_getElem (by omega)⟩
              have n0 : name0 m = s0.name := by
                unfold name0
                rw [List.getD_eq_getElem?_getD, List.getElem?_map, hs0]
                rfl
              refine .inl ⟨_, rfl, ixT (i := 0) hs3 rfl ?_⟩
              refine .inl ⟨_, rfl, ixL (i := 0) hn3 (by rw [List.getElem?_map, List.getElem?_map, hs0]; rfl) ?_⟩
              refine .inl ⟨rfl, _, rfl, ?_⟩
              by_cases e : z0 = s0.name
              · refine (if_neg (by simp [e])).mpr ?_
                rw [n0, decide_eq_true e, Bool.true_and] at q
                refine ⟨_, rfl, _, rfl, ⟨1, rfl, r_slT hs3 fun b H4 g4 hb => ?_⟩⟩
                have hb' : SqT c.K H4 b (zr.map V.str) := by
                  have : cutV ((z0 :: zr).map V.str) (some ((1 : Nat) : Int)) none = zr.map V.str := by
                    rw [cut_from, ← List.map_drop]
                    rfl
                  rw [← this]
                  exact hb
                refine ⟨r, b, _, _, rfl, .inr ⟨g4.sqT hs3, hb', fun D4 hD4 => ?_⟩⟩
                have zl : zr.length ≤ 10000 := by
                  have : (d0 :: ds).length = (z0 :: zr).length := by rw [ez, List.length_map]
                  simp only [List.length_cons] at this hf
                  omega
                refine lc_map (walk_zipT (n := ((z0 :: zr).zip zr).length) (by simp)) [] (fun _ _ => True) (fun i y _ => ∃ p, ((z0 :: zr).zip zr)[i]? = some p ∧ y = .bl (folS m p.1 p.2)) yk_pair
                  (by simp; omega) hD4 (fun _ h => nomatch h) (fun H' g => ⟨g.sqT (g4.sqT hs3), g.sqT hb'⟩) trivial (fun _ _ _ _ _ => trivial) (fun _ _ _ _ _ _ h => h) ?_ ?_
                · rintro i y H5 H6 Fin hi g5 g6 _ ⟨T, x1, x2, rfl, hT, rfl, hx, hy⟩ fin
                  have hx := hx
                  have hy := hy
                  dsimp only at hx hy
                  rw [List.getElem?_map] at hx hy
                  obtain ⟨p1, e1, rfl⟩ := Option.map_eq_some_iff.mp hx
                  obtain ⟨p2, e2, rfl⟩ := Option.map_eq_some_iff.mp hy
                  obtain ⟨st, hst, hsn⟩ := List.mem_map.mp (hzn p1 (List.mem_of_getElem? e1))
                  obtain ⟨j, hj⟩ := List.mem_iff_getElem?.mp hst
                  subst hsn
                  have g06 := (g03.trans g4).trans (g5.trans g6)
                  refine ⟨T, _, rfl, SqT.of upd_same, rfl, _, _, rfl, _, _, rfl, ?_⟩
                  refine ⟨rfl, rfl, _, rfl, _, rfl, _, rfl, a, m, j, st, rfl, hL.go g06 (by simp), hD, hj, fun H7 fl g7 hfl => r_inT hfl rfl (flat_strs _) ?_⟩
                  rw [inV_strs, ← fol_of hB hj]
                  refine fin _ _ (g6.trans g7) trivial ⟨(st.name, p2), ?_, rfl⟩
                  rw [List.getElem?_zip_eq_some]
                  exact ⟨e1, e2⟩
                · intro H5 ys g5 _ hD5 hl5 hr5
                  have ey : ys = (((z0 :: zr).zip zr).map fun p => folS m p.1 p.2).map V.bl := by
                    rw [List.map_map]
                    exact list_of hl5 fun i y e => hr5 i y e
                  subst ey
                  exact r_nil (r_all (SqL.of hD5) (q H5 (g03.trans (g4.trans g5))))
              · refine (if_pos (by simp [e])).mpr ?_
                have e' : ¬ z0 = name0 m := by rw [n0]; exact e
                rw [decide_eq_false e', Bool.false_and] at q
                exact q H3 g03
          · refine (if_pos (by rw [Bool.eq_false_iff.mpr hall]; rfl)).mpr ?_
            have ef : isRunD m (.tuple (d0 :: ds)) = false := by
              cases h : isRunD m (.tuple (d0 :: ds)) with
              | false => rfl
              | true =>
                refine absurd (List.all_eq_true.mpr fun y hy => ?_) hall
                obtain ⟨z, h1, h2⟩ := List.mem_map.mp hy
                rw [← h2]
                exact run_names hB h (.str z) (by rw [ez]; exact List.mem_map.mpr ⟨z, h1, rfl⟩)
            rw [ef] at q
            exact (if_pos rfl).mpr (q H3 g03)
        · refine (if_pos (by rw [Bool.eq_false_iff.mpr halls]; rfl)).mpr ?_
          have ef : isRunD m (.tuple (d0 :: ds)) = false := by
            cases h : isRunD m (.tuple (d0 :: ds)) with
            | false => rfl
            | true =>
              refine absurd (List.all_eq_true.mpr fun y hy => ?_) halls
              obtain ⟨dd, h1, h2⟩ := List.mem_map.mp hy
              rw [← h2]
              have := run_names hB h dd h1
              cases dd <;> first | rfl | exact nomatch this
          rw [ef] at q
          exact q H3a g03a
    · refine (if_pos (by simpa using ht)).mpr ?_
      have ef : isRunD m d = false := by
        cases d <;> first | rfl | exact absurd rfl ht
      rw [ef] at q
      exact (if_pos rfl).mpr (q H1 g1)
end
end Sd

/-! V09i: the law's look at watches -/
namespace Sd
open PySem PySem.Spec PyProof.Rows L2 RZ RT LamX
theorem str_ext {a b : Str} (h : a.cps.toList = b.cps.toList) : a = b := by
  cases a
  cases b
  congr
  exact Array.toList_inj.mp h
theorem lt_tri (a b : Str) : ltS a b = true ∨ a = b ∨ ltS b a = true := by
  simp only [ltS, decide_eq_true_eq]
  rcases Decidable.em (a.cps.toList < b.cps.toList) with h | h
  · exact .inl h
  · rcases Decidable.em (b.cps.toList < a.cps.toList) with k | k
    · exact .inr (.inr k)
    · exact .inr (.inl (str_ext (List.le_antisymm (List.not_lt.mp k) (List.not_lt.mp h))))
theorem lt_irr (a : Str) : ltS a a = false := by
  simp only [ltS, decide_eq_false_iff_not]
  exact List.lt_irrefl _
theorem lt_tr {a b d : Str} (h : ltS a b = true) (k : ltS b d = true) : ltS a d = true := by
  simp only [ltS, decide_eq_true_eq] at *
  exact List.lt_trans h k
theorem asc_cons {x : Str} : ∀ {xs : List Str}, ascS (x :: xs) = true → ascS xs = true ∧ ∀ z ∈ xs, ltS x z = true
  | [], _ => ⟨rfl, fun z h => nomatch h⟩
  | y :: ys, h => by
    have h' : (ltS x y && (((y :: ys).zip ys).map fun p => ltS p.1 p.2).all id) = true := h
    rw [Bool.and_eq_true] at h'
    have ha : ascS (y :: ys) = true := h'.2
    obtain ⟨_, k⟩ := asc_cons ha
    refine ⟨ha, fun z hz => ?_⟩
    rcases List.mem_cons.mp hz with e | e
    · rw [e]; exact h'.1
    · exact lt_tr h'.1 (k z e)
theorem asc_mk {x : Str} : ∀ {xs : List Str}, ascS xs = true → (∀ z ∈ xs, ltS x z = true) → ascS (x :: xs) = true
  | [], _, _ => rfl
  | y :: ys, h, k => by
    show (ltS x y && (((y :: ys).zip ys).map fun p => ltS p.1 p.2).all id) = true
    rw [k y List.mem_cons_self, Bool.true_and]
    exact h
theorem asc_nodup : ∀ {xs : List Str}, ascS xs = true → xs.Nodup
  | [], _ => List.nodup_nil
  | x :: xs, h => by
    obtain ⟨h1, h2⟩ := asc_cons h
    exact List.nodup_cons.mpr ⟨fun z => (by have := h2 x z; rw [lt_irr] at this; cases this), asc_nodup h1⟩
theorem rising_cons : ∀ {y : Str} {ys : List Str}, risingS y ys = true → sortedS ys = true ∧ ∀ z ∈ ys, ltS z y = false
  | _, [], _ => ⟨rfl, fun z h => nomatch h⟩
  | y, w :: ws, h => by
    have h' : (!ltCps w.cps.toList y.cps.toList && risingS w ws) = true := h
    rw [Bool.and_eq_true] at h'
    obtain ⟨_, k⟩ := rising_cons h'.2
    have e : ltS w y = false := by
      have := h'.1
      rw [ltCps_eq] at this
      simpa [ltS] using this
    refine ⟨h'.2, fun z hz => ?_⟩
    rcases List.mem_cons.mp hz with ez | ez
    · rw [ez]; exact e
    · have kz := k z ez
      cases hh : ltS z y with
      | false => rfl
      | true =>
        rcases lt_tri w y with t | t | t
        · rw [t] at e; cases e
        · rw [← t] at hh; rw [hh] at kz; cases kz
        · have := lt_tr hh t
          rw [this] at kz; cases kz
theorem pigeon : ∀ {xs ys : List Str}, xs.Nodup → (∀ z ∈ xs, z ∈ ys) → xs.length ≤ ys.length
  | [], ys, _, _ => Nat.zero_le _
  | x :: xs, ys, h, k => by
    obtain ⟨h1, h2⟩ := List.nodup_cons.mp h
    have hx := k x List.mem_cons_self
    have e := List.length_erase_of_mem hx
    have := pigeon (ys := ys.erase x) h2 fun z hz => by
      have hz' := k z (List.mem_cons_of_mem _ hz)
      have ne : z ≠ x := fun e => h1 (e ▸ hz)
      exact (List.mem_erase_of_ne ne).mpr hz'
    have pos := List.length_pos_of_mem hx
    simp only [List.length_cons]
    omega
theorem sorted_is : ∀ {xs ys : List Str}, ascS xs = true → sortedS ys = true → (∀ z, z ∈ ys ↔ z ∈ xs) → ys.length = xs.length → ys = xs
  | [], ys, _, _, _, l => List.length_eq_zero_iff.mp l
  | x :: xs, [], _, _, _, l => by simp at l
  | x :: xs, y :: ys, ha, hs, hm, l => by
    obtain ⟨a1, a2⟩ := asc_cons ha
    obtain ⟨s1, s2⟩ := rising_cons (show risingS y ys = true from hs)
    have ey : y = x := by
      rcases List.mem_cons.mp ((hm y).mp List.mem_cons_self) with e | e
      · exact e
      · rcases List.mem_cons.mp ((hm x).mpr List.mem_cons_self) with e' | e'
        · exact e'.symm
        · have h1 := a2 y e
          rw [s2 x e'] at h1
          cases h1
    subst ey
    have hx : y ∉ xs := fun h => by
      have := a2 y h
      rw [lt_irr] at this
      cases this
    have hy : y ∉ ys := fun h => by
      have e := List.length_erase_of_mem h
      have := pigeon (xs := xs) (ys := ys.erase y) (asc_nodup a1) fun z hz => by
        have ne : z ≠ y := fun e => hx (e ▸ hz)
        rcases List.mem_cons.mp ((hm z).mpr (List.mem_cons_of_mem _ hz)) with e' | e'
        · exact absurd e' ne
        · exact (List.mem_erase_of_ne ne).mpr e'
      have pos := List.length_pos_of_mem h
      simp only [List.length_cons] at l
      omega
    rw [sorted_is a1 s1 (fun z => ⟨fun h => ?_, fun h => ?_⟩) (by simpa using l)]
    · rcases List.mem_cons.mp ((hm z).mp (List.mem_cons_of_mem _ h)) with e | e
      · exact absurd (e ▸ h) hy
      · exact e
    · rcases List.mem_cons.mp ((hm z).mpr (List.mem_cons_of_mem _ h)) with e | e
      · exact absurd (e ▸ h) hx
      · exact e
theorem sorted_asc : ∀ {ys : List Str}, sortedS ys = true → ys.Nodup → ascS ys = true
  | [], _, _ => rfl
  | y :: ys, hs, hn => by
    obtain ⟨s1, s2⟩ := rising_cons (show risingS y ys = true from hs)
    obtain ⟨n1, n2⟩ := List.nodup_cons.mp hn
    refine asc_mk (sorted_asc s1 n2) fun z hz => ?_
    rcases lt_tri y z with t | t | t
    · exact t
    · exact absurd (t ▸ hz) n1
    · rw [s2 z hz] at t
      cases t
theorem nodup_of_unlike {xs : List Str} : ∀ i, i ≤ xs.length → unlike xs i = i → (xs.take i).Nodup
  | 0, _, _ => by simp
  | i + 1, hi, h => by
    have hle := unlike_le xs i
    rw [show unlike xs (i + 1) = if (xs.take i).any (· == xs.getD i Str.empty) then unlike xs i else unlike xs i + 1 from rfl] at h
    by_cases hn : (xs.take i).any (· == xs.getD i Str.empty) = true
    · rw [if_pos hn] at h
      omega
    · rw [if_neg hn] at h
      have hi' : unlike xs i = i := Nat.succ.inj h
      have ih := nodup_of_unlike i (by omega) hi'
      have ei : xs.take (i + 1) = xs.take i ++ [xs[i]] := by rw [List.take_succ, List.getElem?_eq_getElem (by omega)]; rfl
      rw [ei, List.nodup_append]
      refine ⟨ih, by simp, fun a ha b hb => ?_⟩
      have hb' : b = xs[i] := by simpa using hb
      subst hb'
      intro e
      subst e
      apply hn
      refine List.any_eq_true.mpr ⟨_, ha, ?_⟩
      rw [List.getD_eq_getElem?_getD, List.getElem?_eq_getElem (by omega)]
      simp
theorem sort_set {xs ys : List Str} (l : ys.length = unlike xs xs.length) (hm : ∀ z, z ∈ ys ↔ z ∈ xs) (hs : sortedS ys = true) : decide (xs = ys) = ascS xs := by
  cases h : ascS xs with
  | true =>
    have nd := asc_nodup h
    have := unlike_nodup nd _ (Nat.le_refl _)
    exact decide_eq_true (sorted_is h hs hm (by rw [l, this])).symm
  | false =>
    refine decide_eq_false fun e => ?_
    subst e
    have nd := nodup_of_unlike (xs := xs) _ (Nat.le_refl _) l.symm
    rw [List.take_of_length_le (Nat.le_refl _)] at nd
    rw [sorted_asc hs nd] at h
    cases h
theorem eqvA_strs : ∀ xs ys : List Str, PyData.eqvAll (xs.map PyData.str) (ys.map PyData.str) = decide (xs = ys)
  | [], [] => rfl
  | [], y :: ys => by simp [PyData.eqvAll]
  | x :: xs, [] => by simp [PyData.eqvAll]
  | x :: xs, y :: ys => by
    simp only [List.map_cons, PyData.eqvAll, eqvA_strs xs ys, PyData.eqv]
    by_cases h1 : x = y
    · subst h1
      by_cases h2 : xs = ys <;> simp [h2]
    · have : (x == y) = false := by simpa using h1
      simp [this, h1]
theorem sh_strs {zs : List Str} (h : ∀ z ∈ zs, PyData.strOk z = true) : SeqAt.shaped (.list (zs.map PyData.str)) = true := by
  have i1 : PyData.canLayAll0 (zs.map PyData.str) = true := by
    rw [PyProof.Rows.canLayAll_strs']
    exact List.all_eq_true.mpr h
  have i3 : (PyData.list (zs.map PyData.str)).canLay0 = true := i1
  have i4 : (PyData.list (zs.map PyData.str)).depth ≤ 64 := by
    show PyData.depthAll (zs.map PyData.str) + 1 ≤ 64
    rw [PyProof.Rows.depthAll_strs']
    decide
  unfold SeqAt.shaped
  rw [i3, decide_eq_true i4]
  rfl
theorem watch_part {m : Mac} {ds : List PyData} {j : Nat} {d : PyData} (h : ds[j]? = some d) (k : pagesOfD m d = false) : isWatchD m (.tuple ds) = false := by
  show (decide (ds.length = m.clock.length) && ds.all (pagesOfD m)) = false
  have : ds.all (pagesOfD m) = false := List.all_eq_false.mpr ⟨d, List.mem_of_getElem? h, by rw [k]; exact Bool.false_ne_true⟩
  rw [this, Bool.and_false]
theorem asc_part {zs : List Str} : ascNames (.tuple (zs.map PyData.str)) = ((zs.map PyData.str).all isName && ascS zs) := by
  show ((zs.map PyData.str).all isName && ascS (strsOf (zs.map PyData.str))) = _
  rw [strsOf_map]
def strT : PyData → Bool
  | .tuple ds => ds.all PyData.isStr
  | _ => false
def spLWatch (c : Wd) : Sp := fun vs H Q _ => ∃ (a : Addr) (x : V) (m : Mac) (M : List Addr) (d : PyData), vs = [.ref a, x] ∧ LoreAt c.K H a m ∧ DrawnM m ∧ Rq c.K M H d x ∧ txB 50 d = true ∧ ∀ H', Go [] H H' → Q (.bl (isWatchD m d)) H'
section
variable {c : Wd}
abbrev s__law_is_watch_of : Stmt := topS 65
abbrev N__law_is_watch_of : List Str := ["_law_lore_here", "_law_thing", "_law_some", "_law_one"]
abbrev P__law_is_watch_of : List Str := ["_law_lore_here", "_law_thing"]
theorem sc__law_is_watch_of : FnScope N__law_is_watch_of P__law_is_watch_of (defScope s__law_is_watch_of) := ⟨rfl, rfl, rfl, by decide +kernel, rfl, by decide +kernel, by decide +kernel⟩
theorem ok_lwatch (F : At c "_law_is_watch_of" "_law_is_watch_of" s__law_is_watch_of P__law_is_watch_of) (B : Bi c) : Ok c "_law_is_watch_of" 1 P__law_is_watch_of (spLWatch c) := by
  refine Ok.of F sc__law_is_watch_of (fun vs H Q E h => ?_) (fun f cdv A out s H vs Q E hr h => ?_)
  · obtain ⟨a, x, m, M, d, rfl, _⟩ := h
    rfl
  · obtain ⟨a, x, m, M, d, rfl, hL, hD, hd, htx, q⟩ := h
    have hu1 := hu_of hr
    have hu := hr.units
    have hu5 := hr.u5
    have hB := drawn_right hD
    obtain ⟨a1, a2, a3, a5, h1, h2, h3, h4, h5⟩ := id hL.ex
    have hck : (intsV m.clock).length = m.clock.length := by simp [intsV]
    refine ⟨_, (pss_cons (ps_if (PW.pt (pw_or (pt_not (pt_val (pe_callB (call_isE (K := c.K)) (by rfl) B.isinstance (by decide +kernel) (pa_cons (pv 1) (pa_cons (pe_ty "tuple" "tuple" (by rfl) B.tuple (by decide +kernel)) pa_nil))))) (pw_or1 (pt_cmpR (op_neU (K := c.K) hu) (pe_callB (call_lenU (K := c.K)) (by rfl) B.len (by decide +kernel) (pa_cons (pv 1) pa_nil)) (pe_callB (call_lenU (K := c.K)) (by rfl) B.len (by decide +kernel) (pa_cons (pe_ixU (K := c.K) hu1 (pv 0) pe_str (fun _ _ => rfl) (fun _ _ => rfl)) pa_nil)) (nomark _))))) (pss_one (ps_ret pe_bl)) pss_nil)
    (pss_cons (ps_for PassesOwn.never rfl (pi_seq (K := c.K) (pv 1)) (pg_name (i := 2) sc__law_is_watch_of.nd rfl (by first | exact Or.inl rfl | exact Or.inr rfl)) (pss_cons (ps_if (PW.pt (pw_or (pt_not (pt_val (pe_callB (call_isE (K := c.K)) (by rfl) B.isinstance (by decide +kernel) (pa_cons (pv 2) (pa_cons (pe_ty "tuple" "tuple" (by rfl) B.tuple (by decide +kernel)) pa_nil))))) (pw_or1 (pt_not (pt_val (pe_callB (call_allU (K := c.K) rfl) (by rfl) B.all (by decide +kernel) (pa_cons (pe_lc (own := [("_law_one", 3)]) rfl sc__law_is_watch_of.nd (pi_seq (K := c.K) (pv 2)) (blkOk_by (N := N__law_is_watch_of) (sc := defScope s__law_is_watch_of) (by decide +kernel)) (fun _ _ _ _ _ => (pg_name (i := 3) sc__law_is_watch_of.nd rfl (by first | exact Or.inl rfl | exact Or.inr rfl))) (fun _ _ _ _ _ => pts_nil) (fun _ _ _ _ _ => (pe_callB (call_isE (K := c.K)) (by rfl) B.isinstance (by decide +kernel) (pa_cons (pv 3) (pa_cons (pe_ty "str" "str" (by rfl) B.str (by decide +kernel)) pa_nil))))) pa_nil))))))) (pss_one (ps_ret pe_bl)) pss_nil)
    (pss_one (ps_if (PW.pt (pw_or (pt_cmpR (op_neU (K := c.K) hu) (pe_callTy (call_lstQ (K := c.K)) (by rfl) B.list (by decide +kernel) (pa_cons (pv 2) pa_nil)) (pe_sortSetT (by rfl) (by rfl) B.sorted (by rfl) B.set (pv 2)) (nomark _)) (pw_or1 (pt_not (pt_val (pe_callB (call_allU (K := c.K) rfl) (by rfl) B.all (by decide +kernel) (pa_cons (pe_lc (own := [("_law_one", 3)]) rfl sc__law_is_watch_of.nd (pi_seq (K := c.K) (pv 2)) (blkOk_by (N := N__law_is_watch_of) (sc := defScope s__law_is_watch_of) (by decide +kernel)) (fun _ _ _ _ _ => (pg_name (i := 3) sc__law_is_watch_of.nd rfl (by first | exact Or.inl rfl | exact Or.inr rfl))) (fun _ _ _ _ _ => pts_nil) (fun _ _ _ _ _ => (pe_cmpR (op_inU (K := c.K) hu5) (pv 3) (pe_ixU (K := c.K) hu1 (pv 0) pe_str (fun _ _ => rfl) (fun _ _ => rfl)) (by rfl)))) pa_nil))))))) (pss_one (ps_ret pe_bl)) pss_nil))))
    (pss_one (ps_ret pe_bl)))), ?_⟩
    refine ⟨_, rfl, r_c (r_nil ⟨M, x, d, "tuple", _, rfl, hd, isa_tup, ⟨_, rfl, ?_⟩⟩)⟩
    have q' := q H (Go.refl _ _)
    cases d <;> first
      | exact (if_pos rfl).mpr ((if_pos rfl).mpr q')
      | skip
    rename_i ds
    obtain ⟨hdl, htxa⟩ := tx_of htx
    simp only [Rq] at hd
    obtain ⟨r, xs, rfl, hs, hA⟩ := hd
    have hlen := hA.len
    refine (if_neg (by simp [PyData.isTuple])).mpr ?_
    refine ⟨_, rfl, r_nil (r_lenT hs (.inr ⟨_, rfl, a, _, rfl, lget h1 lore_clock, r_nil (r_lenT h3 (.inl ⟨rfl, _, rfl, ?_⟩))⟩))⟩
    by_cases hl : ds.length = m.clock.length
    · have en : V.int (xs.length : Nat) = V.int ((intsV m.clock).length : Nat) := by rw [hlen, hck, hl]
      refine (if_neg (by rw [decide_eq_true en]; simp)).mpr ?_
      refine .inl (.inr ⟨_, rfl, r, rfl, ⟨_, hs⟩, ?_⟩)
      refine for_it (walk_tup (xs := xs)) (fun i σ H' => Go [] H H' ∧ (∀ (j : Nat) (d : PyData), j < i → ds[j]? = some d → pagesOfD m d = true) ∧ ∃ (z2 z3 : Option V), σ = [some (.ref a), some (.ref r), z2, z3]) ⟨Go.refl _ _, fun j d h => absurd h (Nat.not_lt_zero _), _, _, rfl⟩ (fun i σ H' _ h => h.1.sqT hs) ?_ ?_
      · rintro i y σ H1 H2 hi ⟨g1, hall, z2, z3, rfl⟩ ⟨rfl, hy⟩
        obtain ⟨dy, hdy, hry⟩ := RqA.at hA hy
        have txd := htxa dy (List.mem_of_getElem? hdy)
        have r2 := Rq.go (M := M) g1.wide dy y hry
        have no : pagesOfD m dy = false → ∀ H', Go [] H H' → Q (.bl false) H' := fun k H' g => by
          have q2 := q H' g
          rw [watch_part hdy k] at q2
          exact q2
        refine ⟨_, rfl, r_c (r_nil ⟨M, y, dy, "tuple", _, rfl, r2, isa_tup, ⟨_, rfl, ?_⟩⟩)⟩
        by_cases ht : dy.isTuple = true
        · obtain ⟨es, rfl⟩ : ∃ es, dy = .tuple es := by
            cases dy <;> simp [PyData.isTuple] at ht
            exact ⟨_, rfl⟩
          obtain ⟨esl, txe⟩ := tx_of txd
          have r2' := r2
          simp only [Rq] at r2'
          obtain ⟨b, ys, rfl, hb, hE⟩ := r2'
          have ylen := hE.len
          refine (if_neg (by rw [ht]; simp)).mpr ?_
          refine .inl (.inr ⟨_, rfl, b, rfl, ⟨_, hb⟩, fun D hD => ?_⟩)
          refine lc_map (walk_tup (xs := ys)) [] (fun _ _ => True) (fun i y _ => ∃ dd, es[i]? = some dd ∧ y = .bl dd.isStr) yk_at
            (by omega) hD (fun _ h => nomatch h) (fun H' g => g.sqT hb) trivial (fun _ _ _ _ _ => trivial) (fun _ _ _ _ _ _ h => h) ?_ ?_
          · rintro j v H3 H4 Fin hj g3 g4 _ ⟨rfl, hx⟩ fin
            obtain ⟨dv, hdv, hrv⟩ := RqA.at hE hx
            have hrv' := Rq.go (M := M) g3.wide dv v hrv
            exact ⟨rfl, _, rfl, r_c (r_nil ⟨M, v, dv, "str", _, rfl, hrv', isa_str, fin _ _ (Go.refl _ _) trivial ⟨_, hdv, rfl⟩⟩)⟩
          intro H3 bs g3 _ hD3 hl3 hr3
          have ey : bs = (es.map PyData.isStr).map V.bl := by
            rw [List.map_map]
            exact list_of (by omega) fun i y e => by obtain ⟨s, h, h'⟩ := hr3 i y e; exact ⟨s, h, h'⟩
          subst ey
          refine r_nil (r_all (SqL.of hD3) ⟨_, rfl, ?_⟩)
          have g03 := g1.trans g3
          by_cases halls : (es.map PyData.isStr).all id = true
          · refine (if_neg (by rw [halls]; simp)).mpr ?_
            obtain ⟨zs, rfl⟩ := all_strs (ds := es) fun y hy => List.all_eq_true.mp halls _ (List.mem_map.mpr ⟨y, hy, rfl⟩)
            have ezs := strs_inv hE
            subst ezs
            have okz : ∀ z ∈ zs, PyData.strOk z = true := fun z hz => txe (.str z) (List.mem_map.mpr ⟨z, hz, rfl⟩)
            have zl : zs.length ≤ 50 := by simpa using esl
            have hb3 := g3.sqT hb
            dsimp only [tNext]
            refine ⟨_, rfl, r_nil ⟨b, _, rfl, hb3, fun l2 hl2 ap => ?_⟩⟩
            have g4 : Go [] H3 (upd H3 l2 (.lst (zs.map V.str))) := Go.new hl2
            have hl22 : (upd H3 l2 (.lst (zs.map V.str))) l2 = some (.lst (zs.map V.str)) := upd_same
            generalize (upd H3 l2 (.lst (zs.map V.str))) = H4 at g4 hl22 ⊢
            refine ⟨_, rfl, b, zs, rfl, g4.sqT hb3, by omega, fun p ws e1 e2 e3 hp => ?_⟩
            have g5 : Go [] H4 (upd H4 p (.lst (ws.map V.str))) := Go.new hp
            have hp5 : (upd H4 p (.lst (ws.map V.str))) p = some (.lst (ws.map V.str)) := upd_same
            have hl25 := g5.old l2 _ (by simp) hl22
            generalize (upd H4 p (.lst (ws.map V.str))) = H5 at g5 hp5 hl25 ⊢
            have g05 := g03.trans (g4.trans g5)
            refine .inr ⟨.list (zs.map PyData.str), .list (ws.map PyData.str), .lst (SqL.of hl25) (dpA_strs _), .lst (SqL.of hp5) (dpA_strs _), sh_strs okz, sh_strs (fun z hz => okz z ((e2 z).mp hz)), ?_⟩
            have ev : PyData.eqv (.list (zs.map PyData.str)) (.list (ws.map PyData.str)) = ascS zs := by
              rw [← sort_set e1 e2 e3, ← eqvA_strs]
              rfl
            rw [ev]
            refine ⟨_, rfl, ?_⟩
            cases hasc : ascS zs with
            | false =>
              refine (if_pos rfl).mpr ((if_pos rfl).mpr (no ?_ H5 g05))
              unfold pagesOfD
              rw [asc_part, hasc, Bool.and_false, Bool.false_and]
            | true =>
              refine (if_neg (by simp)).mpr ?_
              have hb5 := (g4.trans g5).sqT hb3
              refine .inl (.inr ⟨_, rfl, b, rfl, ⟨_, hb5⟩, fun D2 hD2 => ?_⟩)
              refine lc_map (walk_tup (xs := zs.map V.str)) [] (fun _ _ => True) (fun i y _ => ∃ z, zs[i]? = some z ∧ y = .bl (decide (z ∈ m.pages))) yk_at
                (by rw [List.length_map]; omega) hD2 (fun _ h => nomatch h) (fun H' g => g.sqT hb5) trivial (fun _ _ _ _ _ => trivial) (fun _ _ _ _ _ _ h => h) ?_ ?_
              · rintro j v H6 H7 Fin hj g6 g7 _ ⟨rfl, hx⟩ fin
                rw [List.getElem?_map] at hx
                obtain ⟨z, hz, rfl⟩ := Option.map_eq_some_iff.mp hx
                have g06 := g05.trans g6
                refine ⟨rfl, _, rfl, .inr ⟨_, rfl, a, _, rfl, lget (g06.old a _ (by simp) h1) lore_pages, r_inT (g06.sqT h4) rfl (flat_strs _) ?_⟩⟩
                rw [inV_strs]
                exact fin _ _ (Go.refl _ _) trivial ⟨_, hz, rfl⟩
              intro H6 bs g6 _ hD6 hl6 hr6
              have ey : bs = (zs.map fun z => decide (z ∈ m.pages)).map V.bl := by
                rw [List.map_map]
                exact list_of (by rw [hl6, List.length_map]) fun i y e => by obtain ⟨s, h, h'⟩ := hr6 i y e; exact ⟨s, h, h'⟩
              subst ey
              refine r_nil (r_all (SqL.of hD6) ⟨_, rfl, ?_⟩)
              have g06 := g05.trans g6
              have ep : pagesOfD m (.tuple (zs.map PyData.str)) = (zs.map fun z => decide (z ∈ m.pages)).all id := by
                unfold pagesOfD
                rw [asc_part, hasc, Bool.and_true]
                have e1 : strsD (.tuple (zs.map PyData.str)) = zs := strsOf_map zs
                rw [e1, List.all_map, List.all_map]
                show (zs.all _ && zs.all fun z => decide (z ∈ m.pages)) = zs.all fun z => decide (z ∈ m.pages)
                cases hh : zs.all fun z => decide (z ∈ m.pages) with
                | false => rw [Bool.and_false]
                | true =>
                  rw [Bool.and_true]
                  have pn := hB
                  simp only [macB, pagesB, namesB, Bool.and_eq_true, decide_eq_true_eq, List.all_eq_true] at pn
                  exact List.all_eq_true.mpr fun z hz => pn.2.2.1.1.1 z (of_decide_eq_true (List.all_eq_true.mp hh z hz))
              by_cases hpg : (zs.map fun z => decide (z ∈ m.pages)).all id = true
              · refine (if_neg (by rw [hpg]; simp)).mpr ?_
                refine ⟨g06, fun j d hj hd => ?_, _, _, rfl⟩
                rcases Nat.lt_or_ge j i with lt | ge
                · exact hall j d lt hd
                · have : j = i := by omega
                  subst this
                  rw [hdy] at hd
                  cases hd
                  rw [ep]
                  exact hpg
              · refine (if_pos (by rw [Bool.eq_false_iff.mpr hpg]; rfl)).mpr (no ?_ H6 g06)
                rw [ep]
                exact Bool.eq_false_iff.mpr hpg
          · refine (if_pos (by rw [Bool.eq_false_iff.mpr halls]; rfl)).mpr (no ?_ H3 g03)
            unfold pagesOfD
            have : ascNames (.tuple es) = false := by
              cases h : ascNames (.tuple es) with
              | false => rfl
              | true =>
                have h' : (es.all isName && ascS (strsOf es)) = true := h
                rw [Bool.and_eq_true] at h'
                refine absurd (List.all_eq_true.mpr fun y hy => ?_) halls
                obtain ⟨dd, k1, k2⟩ := List.mem_map.mp hy
                rw [← k2]
                have := List.all_eq_true.mp h'.1 dd k1
                cases dd <;> first | rfl | exact nomatch this
            rw [this, Bool.false_and]
        · refine (if_pos (by simpa using ht)).mpr ((if_pos rfl).mpr (no ?_ H2 g1))
          unfold pagesOfD
          have : ascNames dy = false := by cases dy <;> first | rfl | exact absurd rfl ht
          rw [this, Bool.false_and]
      · rintro σ H1 ⟨g1, hall, z2, z3, rfl⟩
        have q2 := q H1 g1
        have e : isWatchD m (.tuple ds) = true := by
          show (decide (ds.length = m.clock.length) && ds.all (pagesOfD m)) = true
          rw [decide_eq_true hl, Bool.true_and]
          refine List.all_eq_true.mpr fun d hd => ?_
          obtain ⟨j, hj⟩ := List.mem_iff_getElem?.mp hd
          have lt := (List.getElem?_eq_some_iff.mp hj).1
          exact hall j d (by omega) hj
        rw [e] at q2
        exact q2
    · have en : ¬ (V.int (xs.length : Nat) = V.int ((intsV m.clock).length : Nat)) := by
        rw [hlen, hck]
        intro z
        have z' := V.int.inj z
        exact hl (by omega)
      refine (if_pos (by rw [decide_eq_false en]; simp)).mpr ?_
      have e : isWatchD m (.tuple ds) = false := by
        show (decide (ds.length = m.clock.length) && ds.all (pagesOfD m)) = false
        rw [decide_eq_false hl, Bool.false_and]
      rw [e] at q'
      exact q'
end
end Sd

/-! V09j: what is heard where a lambda is asked -/
namespace Sd
open PySem PySem.Spec PyProof.Rows L2 RZ RT LamX
def wordH : Nat → Str | 0 => "watch" | _ => "run"
/-- fine, or an error of a class with its value: what is made of the lambda's reading tl -/
def TTheard (cl : Nat → Addr) (tl : XK → Hp → VK → Prop) (H : Hp) (Q : VK) : Prop := ∀ (E : XK) (Q' : VK) (H1 : Hp), Go [] H H1 →
  (∀ v H2, Go [] H1 H2 → (∀ T, H2 T = none → Q (.ref T) (upd H2 T (.tup [.str "fine", .non]))) → Q' v H2) →
  (∀ k, k < 2 → ∀ dd vv H2, Go [] H1 H2 → H2 dd = some (exd dd [("value", vv)]) → (∀ H3 T, Go [] H2 H3 → H3 T = none → Q (.ref T) (upd H3 T (.tup [.str (wordH k), vv]))) → E (.ref (cl k)) (some dd) H2) → tl E H1 Q'
def threeE : List Str := ["BadWatch", "BadRun", "BadSets"]
structure Er3x (c : Wd) (cl : Nat → Addr) (CS : Addr) : Prop where
  er : ∀ (k : Nat) (x : Str), threeE[k]? = some x → Er c x (cl k)
  kit : ∀ j k, j < 3 → k < 3 → PySem.W.kitOne c.K (.ref (cl k)) (.ref (cl j)) = some (decide (j = k))
  val : ∀ k, k < 3 → PySem.W.kitOne c.K (.ref (cl k)) (.type "ValueError") = some true
  exm : ∀ k, k < 3 → PySem.W.exmOne c.K (.ref (cl k)) (.ref CS) = some true
  mgS : c.mg "SeldomError" = some (.ref CS)
  noV : c.mg "ValueError" = none
def kindsH (k : Nat) : List V := [.bl (decide (0 = k)), .bl (decide (1 = k))]
theorem kindsH_one {k : Nat} (h : k < 2) : ((kindsH k).countP fun z => eqV z (.bl true)) = 1 ∧ (kindsH k)[k]? = some (.bl true) ∧ (∀ (m : Nat) (z : V), m < k → (kindsH k)[m]? = some z → eqV z (.bl true) = false) ∧ (["watch", "run"] : List Str)[k]? = some (wordH k) := by
  rcases (by omega : k = 0 ∨ k = 1) with z | z <;> subst z <;> refine ⟨rfl, rfl, fun m z hm hz => ?_, rfl⟩
  all_goals
    rcases (by omega : m = 0) with y <;> first
      | omega
      | (subst y; cases hz; rfl)
section
variable {X : Cx}
theorem pe_ixS {K : PySem.W.Frag} {a b : Expr} {ta tb : TE} {pos : Pos} (ha : PE X a ta) (hb : PE X b tb) (hs : PlainIx b) (hK : X.K = K := by rfl) : PE X (.Subscript a b pos) (tOp (rIx K) ta tb) := by
  subst hK
  exact pe_ix ix_seq ha hb hs
end
section
variable {c : Wd} {CS : Addr} {cl : Nat → Addr}
abbrev s__law_heard : Stmt := topS 66
abbrev N__law_heard : List Str := ["_law_ask", "_law_caught", "error", "_law_marks"]
abbrev P__law_heard : List Str := ["_law_ask"]
theorem sc__law_heard : FnScope N__law_heard P__law_heard (defScope s__law_heard) := ⟨rfl, rfl, rfl, by decide +kernel, rfl, by decide +kernel, by decide +kernel⟩
theorem gv_law_heard (F : At c "_law_heard" "_law_heard" s__law_heard P__law_heard) (B : Bi c) (Ex : Er3x c cl CS) : GvO c "_law_heard" "_law_ask" (TTheard cl) := by
  refine gv_of F sc__law_heard rfl (.inl rfl) fun X q g cdg hX f c' s H Q tl act code tt => ?_
  obtain ⟨c1, c2, c3, c4, c5⟩ := hX
  obtain ⟨P, w, K, mg, base⟩ := c
  dsimp only at c1 c2 c3 c4 c5
  subst c1 c2 c3 c4 c5
  have CL_SeldomError := Ex.mgS
  have CL_BadWatch := (Ex.er 0 "BadWatch" rfl).mg
  have CL_BadRun := (Ex.er 1 "BadRun" rfl).mg
  have CL_BadSets := (Ex.er 2 "BadSets" rfl).mg
  refine ⟨_, (pss_cons (ps_set (i := 1) sc__law_heard.nd rfl (by first | exact Or.inl rfl | exact Or.inr rfl) pe_non)
    (pss_cons (ps_try_keep (i := 2) rfl rfl rfl sc__law_heard.nd rfl rfl ⟨by rfl, by decide, .inl CL_SeldomError⟩ (fun W pn xe tk _ => (pss_one (ps_expr (act W pn xe _ _ tk)))) (fun _ _ _ _ _ _ _ => (pss_one (ps_set (i := 1) sc__law_heard.nd rfl (by first | exact Or.inl rfl | exact Or.inr rfl) (pv 2)))))
    (pss_cons (ps_if (pt_cmpR op_isN (pv 1) pe_non (nomark _)) (pss_one (ps_ret (pe_tup (pa_cons pe_str (pa_cons pe_non pa_nil))))) pss_nil)
    (pss_cons (ps_set (i := 3) sc__law_heard.nd rfl (by first | exact Or.inl rfl | exact Or.inr rfl) (pe_lstS (pa_cons (pe_callB call_isY (by rfl) B.isinstance (by decide +kernel) (pa_cons (pv 1) (pa_cons (pe_glob (v := V.ref _) rfl CL_BadWatch rfl) pa_nil))) (pa_cons (pe_callB call_isY (by rfl) B.isinstance (by decide +kernel) (pa_cons (pv 1) (pa_cons (pe_glob (v := V.ref _) rfl CL_BadRun rfl) pa_nil))) pa_nil))))
    (pss_cons (ps_if (PW.pt (pw_or (pt_cmpR op_ne (pe_bm PySem.F.plainAttrs_list PySem.F.slot_list_count PySem.F.type_list_count mt_countV (pv 3) (pa_cons pe_bl pa_nil)) pe_int (nomark _)) (pw_or (pt_val (pe_callB call_isY (by rfl) B.isinstance (by decide +kernel) (pa_cons (pv 1) (pa_cons (pe_glob (v := V.ref _) rfl CL_BadSets rfl) pa_nil)))) (pw_or1 (pt_not (pt_val (pe_callB call_isY (by rfl) B.isinstance (by decide +kernel) (pa_cons (pv 1) (pa_cons (pe_ty "ValueError" "ValueError" (by rfl) Ex.noV (by decide +kernel)) pa_nil))))))))) (pss_one (ps_ret (pe_tup (pa_cons pe_str (pa_cons pe_non pa_nil))))) pss_nil)
    (pss_one (ps_ret (pe_tup (pa_cons (pe_ixS (K := X.K) (pe_lstS (pa_cons pe_str (pa_cons pe_str pa_nil))) (pe_bm PySem.F.plainAttrs_list PySem.F.slot_list_index PySem.F.type_list_index mt_index (pv 3) (pa_cons pe_bl pa_nil)) (fun _ _ => rfl)) (pa_cons (pe_xw (K := X.K) (pv 1)) pa_nil)))))))))), ?_⟩
  refine ⟨rfl, code, tt _ _ H (Go.refl _ _) (fun v H2 g2 k => ?_) fun i hi dd vv H2 g2 hdd k => ⟨Ex.exm i (by omega), fun a na => ?_⟩⟩
  · refine ⟨_, rfl, rfl, _, rfl, (if_pos (by simp)).mpr ?_⟩
    exact ⟨by show 2 ≤ sizeLine; decide, fun T2 fT2 => k T2 fT2⟩
  · refine ⟨_, rfl, ?_⟩
    have nad : a ≠ dd := fun z => by
      rw [z, hdd] at na
      cases na
    have g5 : Go [] H2 (upd H2 a (exq a (.ref (cl i)) (some dd))) := Go.new na
    have hA : (upd H2 a (exq a (.ref (cl i)) (some dd))) a = some (exq a (.ref (cl i)) (some dd)) := upd_same
    have hDd : (upd H2 a (exq a (.ref (cl i)) (some dd))) dd = some (exd dd [("value", vv)]) := by rw [upd_ne nad.symm, hdd]
    dsimp only [gName]
    generalize (upd H2 a (exq a (.ref (cl i)) (some dd))) = H5 at g5 hA hDd ⊢
    obtain ⟨nm, hnm⟩ : ∃ nm, threeE[i]? = some nm := ⟨_, List.getElem?_eq_getElem (by show i < 3; omega)⟩
    obtain ⟨_, _, Tk, _⟩ := (Ex.er i nm hnm).ex
    refine ⟨_, rfl, rfl, _, rfl, (if_neg (by simp)).mpr ?_⟩
    refine ⟨_, rfl, r_c (r_nil ⟨a, cl i, dd, _, .ref (cl 0), _, _, rfl, Tk.exc, .own _, hA, hDd, Ex.kit 0 i (by decide) (by omega), ?_⟩)⟩
    refine ⟨_, rfl, r_c (r_nil ⟨a, cl i, dd, _, .ref (cl 1), _, _, rfl, Tk.exc, .own _, hA, hDd, Ex.kit 1 i (by decide) (by omega), ?_⟩)⟩
    refine r_nil ⟨by show 2 ≤ sizeLine; decide, fun L1 fL1 ap1 => ?_⟩
    have g6 : Go [] H5 (upd H5 L1 (.lst (kindsH i))) := Go.new fL1
    have hL1 : (upd H5 L1 (.lst (kindsH i))) L1 = some (.lst (kindsH i)) := upd_same
    have el : ([.bl (decide (0 = i)), .bl (decide (1 = i))] : List V) = kindsH i := rfl
    dsimp only [gName, tSeq, tAsg]
    rw [el]
    generalize (upd H5 L1 (.lst (kindsH i))) = H6 at g6 hL1 ⊢
    have hA6 := g6.old a _ (by simp) hA
    have hD6 := g6.old dd _ (by simp) hDd
    obtain ⟨o1, o2, o3, o4⟩ := kindsH_one hi
    refine ⟨_, rfl, .inl ⟨rfl, _, SqL.of hL1⟩, r_c (r_nil ⟨L1, kindsH i, .bl true, rfl, rfl, SqL.of hL1, rfl, rfl, ?_⟩)⟩
    rw [o1]
    refine ⟨rfl, _, rfl, (if_neg (by simp)).mpr ?_⟩
    refine ⟨_, rfl, r_c (r_nil ⟨a, cl i, dd, _, .ref (cl 2), _, _, rfl, Tk.exc, .own _, hA6, hD6, Ex.kit 2 i (by decide) (by omega), ⟨_, rfl, (if_neg (by simp; omega)).mpr ?_⟩⟩)⟩
    refine ⟨_, rfl, r_c (r_nil ⟨a, cl i, dd, _, .ty "ValueError", _, _, rfl, Tk.exc, .ty _, hA6, hD6, Ex.val i (by omega), ⟨_, rfl, (if_neg (by simp)).mpr ?_⟩⟩)⟩
    refine ⟨by show 2 ≤ sizeLine; decide, fun L4 fL4 ap4 => ?_⟩
    have g9 : Go [] H6 (upd H6 L4 (.lst [.str "watch", .str "run"])) := Go.new fL4
    have hL4 : (upd H6 L4 (.lst [.str "watch", .str "run"])) L4 = some (.lst ((["watch", "run"] : List Str).map V.str)) := upd_same
    have hL1' := g9.old L1 _ (by simp) hL1
    have hA9 := g9.old a _ (by simp) hA6
    have hD9 := g9.old dd _ (by simp) hD6
    refine ⟨_, rfl, .inl ⟨rfl, _, SqL.of hL1'⟩, r_c (r_nil ⟨L1, kindsH i, .bl true, i, .bl true, rfl, rfl, SqL.of hL1', rfl, rfl, o2, rfl, o3, ?_⟩)⟩
    refine (ixL (K := X.K) (i := i) hL4 (by rw [List.getElem?_map, o4]; rfl) ?_)
    refine ⟨_, rfl, a, cl i, dd, _, vv, rfl, Tk.xf, Tk.noV, hA9, hD9, rfl, r_nil ⟨by show 2 ≤ sizeLine; decide, fun T2 fT2 => ?_⟩⟩
    exact k _ T2 (g5.trans (g6.trans g9)) fT2
end
end Sd

/-! V09k: what is asked of a watch, right -/
namespace Sd
open PySem PySem.Spec PyProof.Rows L2 RZ RT LamX
theorem rq_pair {K : PySem.W.Frag} {M : List Addr} {H : Hp} {s : Str} {d : PyData} {v : V} {T : Addr} (h : Rq K M H d v) (hT : H T = none) : Rq K M (upd H T (.tup [.str s, v])) (.tuple [.str s, d]) (.ref T) := by
  simp only [Rq, RqA]
  exact ⟨T, _, rfl, SqT.of upd_same, _, _, rfl, rfl, _, _, rfl, Rq.go ((Go.new (M := []) hT).wide) _ _ h, rfl⟩
theorem sm_sh {B w p : Nat} {d : PyData} (h : Sm B w p d) (hB : B ≤ 10 ^ 19) (hw : 12 * w ≤ 10000000) : d.showable = true ∧ d.shown.length ≤ sizeLine := by
  obtain ⟨h1, h2⟩ := shows hB d h.ok
  have := h.wt
  exact ⟨h1, by rw [sizeLine_eq]; omega⟩
theorem MacAt.ins {K : PySem.W.Frag} {C : Addr} {H : Hp} {o : Addr} {m : Mac} {cs : List (List Nat)} (h : MacAt K C H o m cs) : ∃ (dx : Addr) (fs : List (Str × V)), H o = some (.ins C dx fs) ∧ ∀ f : Str, f ∉ mNames → fs.lookup f = none := by
  obtain ⟨dx, fs, _, _, _, _, _, _, _, _, _, _, _, e0, _, _, _, _, _, _, _, _, _, _, _, _, _, _, _, _, _, _, _, _, _, _, e23⟩ := h.ex
  exact ⟨dx, fs, e0, e23⟩
theorem MacAt.goM {K : PySem.W.Frag} {C : Addr} {H H' : Hp} {o : Addr} {M : List Addr} {m : Mac} {cs : List (List Nat)} (h : MacAt K C H o m cs) (g : Go M H H') (hM : ∀ b ∈ M, ∀ kvs, H b ≠ some (.dK kvs)) : MacAt K C H' o m cs := by
  obtain ⟨dx, fs, a1, a2, a3, a5, a6, a7, d1, d2, ts, kv1, kv2, e0, e1, e2, e3, e4, e5, e6, e7, e8, e9, e10, e11, e12, e13, e14, e15, e16, e17, e18, e19, e20, e21, e22, e23⟩ := h.ex
  have kp : ∀ b kvs, H b = some (.dK kvs) → H' b = some (.dK kvs) := fun b kvs e => g.old b _ (fun z => hM b z kvs e) e
  refine ⟨dx, fs, a1, a2, a3, a5, a6, a7, d1, d2, ts, kv1, kv2, g.fix o _ rfl e0, e1, e2.go g, e3, g.sqT e4, e5, g.sqT e6, e7, e8, g.sqT e9, e10, g.sqT e11, e12, g.sqT e13, e14, fun j t ix z1 z2 => g.sqT (e15 j t ix z1 z2), e16, kp _ _ e17, e18, e19, kp _ _ e20, e21, fun i s q z1 z2 => ?_, e23⟩
  obtain ⟨f, z, z'⟩ := e22 i s q z1 z2
  exact ⟨f, z, g.sqT z'⟩
theorem rq_new {K : PySem.W.Frag} {M : List Addr} {H : Hp} {L : Addr} {d : PyData} {v : V} (h : Rq K M H d v) (hL : H L = none) : Rq K (L :: M) H d v := Rq.wide (fun a ha => by
  rcases List.mem_cons.mp ha with e | e
  · exact .inr (e ▸ hL)
  · exact .inl e) d v h
def pairD (w : Str) (d : PyData) : PyData := .tuple [.str w, d]
theorem tab_at {H : Hp} {P : Addr} {q : Str} (h : TabS H P q) : ∃ r, H P = some (.tbl r) := let ⟨r, a, _⟩ := h; ⟨r, a⟩
theorem tab_go {H H' : Hp} {P : Addr} {M : List Addr} {q : Str} (h : TabS H P q) (g : Go M H H') (hP : P ∉ M) (hc : ∀ b ∈ M, ∀ q', H b ≠ some (CodeO b q')) : TabS H' P q := by
  obtain ⟨r, a1, a2, a3⟩ := h
  refine ⟨r, g.old P _ hP a1, a2, fun pos cv e => ?_⟩
  obtain ⟨b, e1, e2⟩ := a3 pos cv e
  exact ⟨b, e1, g.old b _ (fun z => hc b z q e2) e2⟩
theorem pot_go {H H' : Hp} {p : Addr} {n : Nat} {M : List Addr} (h : Pot H p n) (g : Go M H H') (hp : p ∉ M) : Pot H' p n := by
  obtain ⟨a, b, k, e, r⟩ := h
  exact ⟨a, b, k, g.old p _ hp e, r⟩
def qAsked : Str := "_law_asked_right.<locals>.<lambda>"
def Fit (d : PyData) : Prop := Sm (10 ^ 18) 500 60 d ∧ txB 50 d = true
def spAsked (c : Wd) (C P : Addr) : Sp := fun vs H Q _ => ∃ (M : List Addr) (a o : Addr) (x y z : V) (m : Mac) (cs : List (List Nat)) (dx dy dz : PyData), vs = [.ref a, .ref o, x, y, z] ∧ LoreAt c.K H a m ∧ DrawnM m ∧ MacAt c.K C H o m cs ∧ macB m = true ∧ TabS H P qAsked ∧ P ∈ M ∧ (∀ b ∈ M, H b ≠ none) ∧
  Rq c.K M H dx x ∧ Rq c.K M H dy y ∧ Rq c.K M H dz z ∧ Fit dx ∧ Fit dy ∧ Fit dz ∧ ∀ H', Go [P] H H' → TabS H' P qAsked → Q (.bl true) H'
theorem rq_two {K : PySem.W.Frag} {M : List Addr} {H : Hp} {d e : PyData} {x y : V} {T : Addr} (h1 : Rq K M H d x) (h2 : Rq K M H e y) (hT : H T = none) : Rq K M (upd H T (.tup [x, y])) (.tuple [d, e]) (.ref T) := by
  simp only [Rq, RqA]
  exact ⟨T, _, rfl, SqT.of upd_same, _, _, rfl, Rq.go ((Go.new (M := []) hT).wide) _ _ h1, _, _, rfl, Rq.go ((Go.new (M := []) hT).wide) _ _ h2, rfl⟩
def heardD : Option (Nat × PyData × V) → PyData
  | none => .tuple [.str "fine", .none]
  | some (k, d, _) => .tuple [.str (wordH k), d]
theorem heard_sm {b : Option (Nat × PyData × V)} (h : ∀ k d v, b = some (k, d, v) → Fit d) : Sm (10 ^ 18) 510 61 (heardD b) := by
  cases b with
  | none => exact ⟨by decide +kernel, by decide +kernel, by decide +kernel⟩
  | some u =>
    obtain ⟨k, d, v⟩ := u
    obtain ⟨h1, _⟩ := h k d v rfl
    have hw : sgB (wordH k) = true ∧ (wordH k).length ≤ 5 := by
      unfold wordH
      split <;> decide +kernel
    refine (sm_tup (fun y hy => ?_) ?_ (by decide)).1
    · simp only [List.mem_cons, List.not_mem_nil, or_false] at hy
      rcases hy with z | z <;> subst z
      · exact ⟨hw.1, by show 0 + 1 ≤ 61; decide⟩
      · exact ⟨h1.ok, by have := h1.dp; omega⟩
    · have := h1.wt
      simp only [wtA, wt]
      omega
theorem two_sm {w p : Nat} {d e : PyData} (h1 : Sm (10 ^ 18) w p d) (h2 : Sm (10 ^ 18) w p e) : Sm (10 ^ 18) (2 * w + 1) (p + 1) (.tuple [d, e]) ∧ Sm (10 ^ 18) (2 * w + 1) (p + 1) (.list [d, e]) := by
  refine sm_tup (fun y hy => ?_) ?_ (by omega)
  · simp only [List.mem_cons, List.not_mem_nil, or_false] at hy
    rcases hy with z | z <;> subst z
    · exact ⟨h1.ok, by have := h1.dp; omega⟩
    · exact ⟨h2.ok, by have := h2.dp; omega⟩
  · have := h1.wt
    have := h2.wt
    simp only [wtA]
    omega
/-- what a call within a lambda comes to -/
def Told3 (P : Addr) (cl : Nat → Addr) (H : Hp) (t : XK → TE) (σ : L2.St) (b : Option (Nat × PyData × V)) : Prop := ∀ (E : XK) (Q' : VK) (H1 : Hp), Go [P] H H1 →
  (b = none → ∀ v H2, Go [] H1 H2 → Q' v H2) → (∀ k d v, b = some (k, d, v) → ∀ H2 dd, Go [] H1 H2 → H2 dd = none → E (.ref (cl k)) (some dd) (upd H2 dd (exd dd [("value", v)]))) → t E σ H1 Q'
theorem r_heard {K : PySem.W.Frag} {P : Addr} {cl : Nat → Addr} {M : List Addr} {q : Str} {t : XK → TE} {σ : L2.St} {H : Hp} {Q : VK} {b : Option (Nat × PyData × V)} (hT : TabS H P q) (hP : P ∈ M) (hb : ∀ k d v, b = some (k, d, v) → k < 2 ∧ Rq K M H d v) (tt : Told3 P cl H t σ b)
    (k : ∀ H' T, Go [P] H H' → TabS H' P q → H' T ≠ none → Rq K M H' (heardD b) (.ref T) → Q (.ref T) H') : tLamG P q (TTheard cl) t σ H Q := by
  refine ⟨hT, fun H1 g1 T1 E Q' H2 g2 kf ke => ?_⟩
  have T2 : TabS H2 P q := tab_go T1 g2 (by simp) (by simp)
  have g02 : Go [P] H H2 := g1.trans g2.wide
  have gP : ∀ {G G' : Hp}, Go [P] G G' → Go M G G' := fun g => g.mono fun a ha => by rw [List.mem_singleton.mp ha]; exact hP
  refine tt E Q' H2 g02 (fun e v H3 g3 => kf v H3 g3 fun T fT => ?_) fun i d v e H3 dd g3 fdd => ?_
  · subst e
    have gT : Go [] H3 (upd H3 T (.tup [.str "fine", .non])) := Go.new fT
    refine k _ T (g02.trans (g3.trans gT).wide) (tab_go (tab_go T2 g3 (by simp) (by simp)) gT (by simp) (by simp)) (by rw [upd_same]; exact fun z => nomatch z) ?_
    simp only [heardD, Rq, RqA]
    exact ⟨T, _, rfl, SqT.of upd_same, _, _, rfl, rfl, _, _, rfl, rfl, rfl⟩
  · obtain ⟨hi, hr⟩ := hb i d v e
    have gd : Go [] H3 (upd H3 dd (exd dd [("value", v)])) := Go.new fdd
    refine ke i hi dd v _ (g3.trans gd) upd_same fun H4 T g4 fT => ?_
    have g24 := (g3.trans gd).trans g4
    have gT : Go [] H4 (upd H4 T (.tup [.str (wordH i), v])) := Go.new fT
    refine k _ T (g02.trans (g24.trans gT).wide) (tab_go (tab_go T2 g24 (by simp) (by simp)) gT (by simp) (by simp)) (by rw [upd_same]; exact fun z => nomatch z) ?_
    subst e
    have r4 := Rq.go (gP (g02.trans g24.wide)) d v hr
    exact rq_two (d := .str (wordH i)) (by simp only [Rq]) r4 fT
/-- both ways of a choice go on alike -/
theorem tif_join {b : Bool} {tA tB : TE} {σ : L2.St} {H : Hp} {K : VK} (P : V → Hp → Prop) (h : ∀ v H', P v H' → K v H') (ha : b = true → ∀ K' : VK, (∀ v H', P v H' → K' v H') → tA σ H K') (hb : b = false → ∀ K' : VK, (∀ v H', P v H' → K' v H') → tB σ H K') : if b = true then tA σ H K else tB σ H K := by
  cases b with
  | true => exact (if_pos rfl).mpr (ha rfl K h)
  | false => exact (if_neg (by simp)).mpr (hb rfl K h)
def roadB (m : Mac) (dz : PyData) (z : V) : Option (Nat × PyData × V) := if isRunD m dz = true then none else some (1, dz, z)
def dueB (m : Mac) (dx dz : PyData) (x z : V) : Option (Nat × PyData × V) := if isWatchD m dx = true then roadB m dz z else some (0, dx, x)
def moreB (m : Mac) (dx dy : PyData) (x y : V) : Option (Nat × PyData × V) := if isWatchD m dx = true then (if isWatchD m dy = true then none else some (0, dy, y)) else some (0, dx, x)
theorem rq_fine {K : PySem.W.Frag} {M : List Addr} {H : Hp} {T : Addr} (fT : H T = none) : Rq K M (upd H T (.tup [.str "fine", .non])) (heardD none) (.ref T) := rq_two (d := .str "fine") (e := .none) (by simp only [Rq]) (by simp only [Rq]) fT
section
variable {c : Wd} {C P cc CS : Addr} {cl : Nat → Addr}
abbrev s__law_asked_right : Stmt := topS 67
abbrev N__law_asked_right : List Str := ["_law_lore_here", "_law_made_here", "_law_thing", "_law_other", "_law_road", "_law_due", "_law_told", "_law_was", "_law_is_one", "_law_is_other"]
abbrev P__law_asked_right : List Str := ["_law_lore_here", "_law_made_here", "_law_thing", "_law_other", "_law_road"]
theorem sc__law_asked_right : FnScope N__law_asked_right P__law_asked_right (defScope s__law_asked_right) := ⟨rfl, rfl, rfl, by decide +kernel, rfl, by decide +kernel, by decide +kernel⟩
theorem ok_asked (F : AtC c "_law_asked_right" "_law_asked_right" s__law_asked_right P__law_asked_right cc) (B : Bi c) (TB : TabB c.base c.mg cc P) (D__law_is_watch_of : Ok c "_law_is_watch_of" 1 P__law_is_watch_of (spLWatch c)) (D__law_is_run_of : Ok c "_law_is_run_of" 3 P__law_is_run_of (spLRoad c))
    (D_is_watch : Ok c "is_watch" 4 P_is_watch (spWatchQ c C)) (D__law_heard : GvO c "_law_heard" "_law_ask" (TTheard cl)) (D_seen : Ok c "seen" 7 P_seen (spSeenQ c C (cl 0) (cl 1))) (D_unseen : Ok c "unseen" 7 P_unseen (spSeenQ c C (cl 0) (cl 1))) (D_coarser : Ok c "coarser" 6 P_coarser (spCoarseQ c C (cl 0))) :
    OkG c "_law_asked_right" 12 P__law_asked_right (spAsked c C P) := by
  refine OkCG.of F sc__law_asked_right (fun vs H Q E h => ?_) (fun f A out s H vs Q E hG hr h => ?_)
  · obtain ⟨M, a, o, x, y, z, m, cs, dx, dy, dz, rfl, _⟩ := h
    rfl
  · obtain ⟨M, a, o, x, y, z, m, cs, dx, dy, dz, rfl, hL, hD, hM, hB, hT, hPM, hMn, hx, hy, hz, sx, sy, sz, q⟩ := h
    have hu1 := hu_of hr
    have hu := hr.units
    have hu5 := hr.u5
    refine ⟨_, (pss_cons (ps_par3 (i := 7) (j := 8) (l := 9) rfl sc__law_asked_right.nd rfl rfl rfl (by decide) (by decide) (by decide) rfl rfl rfl (pa_cons (pe_callB (call_reprE (K := c.K) hG) (by rfl) B.repr (by decide +kernel) (pa_cons (pe_tup (pa_cons (pv 2) (pa_cons (pv 3) pa_nil))) pa_nil)) (pa_cons (pe_f D__law_is_watch_of (hr.mono (by omega)) (by rfl) (pa_cons (pv 0) (pa_cons (pv 2) pa_nil))) (pa_cons (pe_f D__law_is_watch_of (hr.mono (by omega)) (by rfl) (pa_cons (pv 0) (pa_cons (pv 3) pa_nil))) pa_nil))) (by rfl))
    (pss_cons (ps_if (pt_cmpR (op_neU (K := c.K) hu) (pe_callB (call_reprE (K := c.K) hG) (by rfl) B.repr (by decide +kernel) (pa_cons (pe_f D_is_watch (hr.mono (by omega)) (by rfl) (pa_cons (pv 1) (pa_cons (pv 2) pa_nil))) pa_nil)) (pe_callB (call_reprE (K := c.K) hG) (by rfl) B.repr (by decide +kernel) (pa_cons (pv 8) pa_nil)) (nomark _)) (pss_one (ps_ret pe_bl)) pss_nil)
    (pss_cons (ps_set (i := 5) sc__law_asked_right.nd rfl (by first | exact Or.inl rfl | exact Or.inr rfl) (pe_ifExp (pt_val (pe_f D__law_is_run_of (hr.mono (by omega)) (by rfl) (pa_cons (pv 0) (pa_cons (pv 4) pa_nil)))) (pe_tup (pa_cons pe_str (pa_cons pe_non pa_nil))) (pe_tup (pa_cons pe_str (pa_cons (pv 4) pa_nil)))))
    (pss_cons (ps_set (i := 5) sc__law_asked_right.nd rfl (by first | exact Or.inl rfl | exact Or.inr rfl) (pe_ifExp (pt_truth (pv 8) (by intro _; rfl)) (pv 5) (pe_tup (pa_cons pe_str (pa_cons (pv 2) pa_nil)))))
    (pss_cons (ps_set (i := 6) sc__law_asked_right.nd rfl (by first | exact Or.inl rfl | exact Or.inr rfl) (pe_lstS (pa_cons (pe_lamO (k := 7) D__law_heard TB (by rfl) rfl rfl (hr.mono (by omega)) (lamS_by (by kernel_rfl)) (fun _ _ _ _ _ _ _ hr => (pe_fE D_seen (hr.mono (by omega)) (passE (takes_of rfl rfl rfl rfl)) (by rfl) (pa_cons (pv 1) (pa_cons (pv 2) (pa_cons (pv 4) pa_nil)))))) pa_nil)))
    (pss_cons (ps_expr (pe_bm PySem.F.plainAttrs_list PySem.F.slot_list_append PySem.F.type_list_append mt_append (pv 6) (pa_cons (pe_lamO (k := 7) D__law_heard TB (by rfl) rfl rfl (hr.mono (by omega)) (lamS_by (by kernel_rfl)) (fun _ _ _ _ _ _ _ hr => (pe_fE D_unseen (hr.mono (by omega)) (passE (takes_of rfl rfl rfl rfl)) (by rfl) (pa_cons (pv 1) (pa_cons (pv 2) (pa_cons (pv 4) pa_nil)))))) pa_nil)))
    (pss_cons (ps_if (pt_cmpR (op_neU (K := c.K) hu) (pe_callB (call_reprE (K := c.K) hG) (by rfl) B.repr (by decide +kernel) (pa_cons (pv 6) pa_nil)) (pe_callB (call_reprE (K := c.K) hG) (by rfl) B.repr (by decide +kernel) (pa_cons (pe_lstS (pa_cons (pv 5) (pa_cons (pv 5) pa_nil))) pa_nil)) (nomark _)) (pss_one (ps_ret pe_bl)) pss_nil)
    (pss_cons (ps_set (i := 5) sc__law_asked_right.nd rfl (by first | exact Or.inl rfl | exact Or.inr rfl) (pe_ifExp (pt_not (pt_truth (pv 8) (by intro _; rfl))) (pe_tup (pa_cons pe_str (pa_cons (pv 2) pa_nil))) (pe_ifExp (pt_truth (pv 9) (by intro _; rfl)) (pe_tup (pa_cons pe_str (pa_cons pe_non pa_nil))) (pe_tup (pa_cons pe_str (pa_cons (pv 3) pa_nil))))))
    (pss_one (ps_ret (pe_and (pe_cmpR (op_eqU (K := c.K) hu) (pe_callB (call_reprE (K := c.K) hG) (by rfl) B.repr (by decide +kernel) (pa_cons (pe_lamO (k := 7) D__law_heard TB (by rfl) rfl rfl (hr.mono (by omega)) (lamS_by (by kernel_rfl)) (fun _ _ _ _ _ _ _ hr => (pe_fE D_coarser (hr.mono (by omega)) (passE (takes_of rfl rfl rfl rfl)) (by rfl) (pa_cons (pv 1) (pa_cons (pv 2) (pa_cons (pv 3) pa_nil)))))) pa_nil)) (pe_callB (call_reprE (K := c.K) hG) (by rfl) B.repr (by decide +kernel) (pa_cons (pv 5) pa_nil)) (nomark _)) (pe_one (pe_cmpR (op_eqU (K := c.K) hu) (pe_callB (call_reprE (K := c.K) hG) (by rfl) B.repr (by decide +kernel) (pa_cons (pe_tup (pa_cons (pv 2) (pa_cons (pv 3) pa_nil))) pa_nil)) (pv 7) (nomark _)))))))))))))), ?_⟩
    have gP : ∀ {G G' : Hp}, Go [P] G G' → Go M G G' := fun g => g.mono fun a ha => by rw [List.mem_singleton.mp ha]; exact hPM
    have sxy := (two_sm sx.1 sy.1).1
    have shw := sm_sh sxy (by decide) (by decide)
    have dpw : ∀ u : Nat, u + 65 < cLine → u + ((PyData.tuple [dx, dy]).depth + 1) < cLine := fun u h => by
      have := sxy.dp
      omega
    refine ⟨_, rfl, _, rfl, r_nil ⟨by show 2 ≤ sizeLine; decide, fun T0 fT0 => ?_⟩⟩
    have r0 := rq_two hx hy fT0
    have g0 : Go [] H (upd H T0 (.tup [x, y])) := Go.new fT0
    generalize (upd H T0 (.tup [x, y])) = H1 at r0 g0 ⊢
    refine r_nil ⟨M, .ref T0, _, rfl, r0, shw.1, shw.2, dpw _ hu5, ?_⟩
    refine ⟨_, rfl, _, rfl, r_nil ⟨a, x, m, M, dx, rfl, hL.go g0 (by simp), hD, Rq.go g0.wide _ _ hx, sx.2, fun H2 g2 => ?_⟩⟩
    refine ⟨_, rfl, _, rfl, r_nil ⟨a, y, m, M, dy, rfl, hL.go (g0.trans g2) (by simp), hD, Rq.go (g0.trans g2).wide _ _ hy, sy.2, fun H3 g3 => r_nil ⟨_, _, _, rfl, ?_⟩⟩⟩
    have g03 := g0.trans (g2.trans g3)
    have shb : ∀ b : Bool, (PyData.bool b).showable = true ∧ (PyData.bool b).shown.length ≤ sizeLine ∧ ∀ u : Nat, u + 65 < cLine → u + ((PyData.bool b).depth + 1) < cLine := fun b => ⟨by cases b <;> rfl, by cases b <;> decide +kernel, fun u h => by show u + (0 + 1) < cLine; omega⟩
    dsimp only [tSeq]
    refine ⟨_, rfl, _, rfl, r_nil ⟨M, o, x, m, cs, dx, rfl, hM.goM g03 (by simp), Rq.go g03.wide _ _ hx, (by have := sx.1.wt; omega), fun H4 g4 => r_nil ⟨M, .bl (isWatchD m dx), .bool (isWatchD m dx), rfl, by simp only [Rq], (shb _).1, (shb _).2.1, (shb _).2.2 _ hu5, ⟨_, rfl, r_nil ⟨M, .bl (isWatchD m dx), .bool (isWatchD m dx), rfl, by simp only [Rq], (shb _).1, (shb _).2.1, (shb _).2.2 _ hu5, .inl ⟨rfl, _, rfl, (if_neg (by simp)).mpr ?_⟩⟩⟩⟩⟩⟩
    have g04 := g03.trans g4
    dsimp only [tNext]
    refine ⟨_, rfl, _, rfl, r_nil ⟨a, z, m, M, dz, rfl, hL.go g04 (by simp), hD, Rq.go g04.wide _ _ hz, (fun ds e => ?_), fun H5 g5 => ?_⟩⟩
    · subst e
      exact Nat.le_trans (tx_of sz.2).1 (by decide)
    have g05 := g04.trans g5
    refine ⟨_, rfl, tif_join (fun v H' => Go [] H5 H' ∧ ∃ T, v = .ref T ∧ Rq c.K M H' (heardD (roadB m dz z)) v) ?_ (fun e K' k' => ?_) (fun e K' k' => ?_)⟩
    rotate_left
    · refine ⟨by show 2 ≤ sizeLine; decide, fun T fT => k' _ _ ⟨Go.new fT, T, rfl, ?_⟩⟩
      rw [show roadB m dz z = none from if_pos e]
      exact rq_fine fT
    · refine ⟨_, rfl, r_nil ⟨by show 2 ≤ sizeLine; decide, fun T fT => k' _ _ ⟨Go.new fT, T, rfl, ?_⟩⟩⟩
      rw [show roadB m dz z = some (1, dz, z) from if_neg (by simp [e])]
      exact rq_two (d := .str (wordH 1)) (by simp only [Rq]; rfl) (Rq.go g05.wide _ _ hz) fT
    rintro v5 H6 ⟨g6, T5, rfl, r5⟩
    have g06 := g05.trans g6
    dsimp only [gName, tSeq, tAsg]
    refine ⟨_, rfl, _, rfl, tif_join (fun v H' => Go [] H6 H' ∧ ∃ T, v = .ref T ∧ Rq c.K M H' (heardD (dueB m dx dz x z)) v) ?_ (fun e K' k' => ?_) (fun e K' k' => ?_)⟩
    rotate_left
    · refine ⟨_, rfl, k' _ _ ⟨Go.refl _ _, T5, rfl, ?_⟩⟩
      rw [show dueB m dx dz x z = roadB m dz z from if_pos e]
      exact r5
    · refine ⟨_, rfl, r_nil ⟨by show 2 ≤ sizeLine; decide, fun T fT => k' _ _ ⟨Go.new fT, T, rfl, ?_⟩⟩⟩
      rw [show dueB m dx dz x z = some (0, dx, x) from if_neg (by simp [e])]
      exact rq_two (d := .str (wordH 0)) (by simp only [Rq]; rfl) (Rq.go g06.wide _ _ hx) fT
    rintro v7 H7 ⟨g7, T7, rfl, r7⟩
    have g07 := g06.trans g7
    have T7b : TabS H7 P qAsked := tab_go hT g07 (by simp) (by simp)
    have mx : ∀ {H' : Hp}, Go [P] H H' → MacAt c.K C H' o m cs := fun g => hM.goM g fun b hb kvs e => by
      rw [List.mem_singleton.mp hb, (tab_at hT).choose_spec] at e
      cases e
    -- what the two calls come to
    have told : ∀ (H' : Hp) (σ : L2.St), Go [P] H H' → σ[1]? = some (some (.ref o)) → σ[2]? = some (some x) → σ[4]? = some (some z) → Told3 P cl H' (fun E => tCall (spSeenQ c C (cl 0) (cl 1)) [] E (tCons (tVar 1) (tCons (tVar 2) (tCons (tVar 4) tNil)))) σ (dueB m dx dz x z) := by
      intro H' σ g s1 s2 s4 E Q' H1 g1 kf ke
      have g' := g.trans g1
      refine ⟨_, s1, _, s2, _, s4, M, o, x, z, m, cs, dx, dz, rfl, mx g', hB, Rq.go (gP g') _ _ hx, (by have := sx.1.wt; omega), Rq.go (gP g') _ _ hz, (by have := sz.1.wt; omega), fun e1 e2 H2 v g2 => kf ?_ v H2 g2, fun e1 => ke 0 dx x ?_, fun e1 e2 => ke 1 dz z ?_⟩
      · rw [dueB, if_pos e1, roadB, if_pos e2]
      · rw [dueB, if_neg (by simp [e1])]
      · rw [dueB, if_pos e1, roadB, if_neg (by simp [e2])]
    have okB : ∀ {H' : Hp}, Go [P] H H' → ∀ k d v, dueB m dx dz x z = some (k, d, v) → (k < 2 ∧ Rq c.K M H' d v) ∧ Fit d := fun {H'} g k d v e => by
      unfold dueB roadB at e
      split at e
      · split at e
        · cases e
        · cases e
          exact ⟨⟨by decide, Rq.go (gP g) _ _ hz⟩, sz⟩
      · cases e
        exact ⟨⟨by decide, Rq.go (gP g) _ _ hx⟩, sx⟩
    refine r_heard (K := c.K) (M := M) (q := qAsked) (b := dueB m dx dz x z) T7b hPM (fun k d v e => (okB g07.wide k d v e).1) (told H7 _ g07.wide rfl rfl rfl) fun H8 T8 g8 T8b n8 r8 => ?_
    have Mn : ∀ {H' : Hp}, Go [P] H H' → TabS H' P qAsked → ∀ a ∈ M, H' a ≠ none := fun g t a ha => by
      by_cases e : a = P
      · rw [e, (tab_at t).choose_spec]
        exact fun z => nomatch z
      · intro z
        exact hMn a ha (g.free (by simpa using e) z)
    have g08 : Go [P] H H8 := g07.wide.trans g8
    refine r_nil ⟨by show 1 ≤ sizeLine; decide, fun L1 fL1 ap1 => ?_⟩
    have n1M : L1 ∉ M := fun z => Mn g08 T8b L1 z fL1
    have n1P : L1 ≠ P := fun z => n1M (z ▸ hPM)
    have g9 : Go [] H8 (upd H8 L1 (.lst [.ref T8])) := Go.new fL1
    have hL1 : (upd H8 L1 (.lst [.ref T8])) L1 = some (.lst [.ref T8]) := upd_same
    have r8' : Rq c.K (L1 :: M) (upd H8 L1 (.lst [.ref T8])) (heardD (dueB m dx dz x z)) (.ref T8) := Rq.go (Go.new fL1) _ _ (rq_new r8 fL1)
    have r7' : Rq c.K (L1 :: M) (upd H8 L1 (.lst [.ref T8])) (heardD (dueB m dx dz x z)) (.ref T7) := Rq.go (Go.new fL1) _ _ (rq_new (Rq.go (gP g8) _ _ r7) fL1)
    have x9 : ∀ {d : PyData} {v : V}, Rq c.K M H d v → Rq c.K (L1 :: M) (upd H8 L1 (.lst [.ref T8])) d v := fun h => Rq.go (Go.new fL1) _ _ (rq_new (Rq.go (gP g08) _ _ h) fL1)
    dsimp only [gName, tSeq, tAsg]
    generalize (upd H8 L1 (.lst [.ref T8])) = H9 at g9 hL1 r8' r7' x9 ⊢
    have g09 := g08.trans g9.wide
    have T9b : TabS H9 P qAsked := tab_go T8b g9 (by simp) (by simp)
    have gL : ∀ {G G' : Hp}, Go [P] G G' → Go (L1 :: M) G G' := fun g => g.mono fun a ha => by rw [List.mem_singleton.mp ha]; exact List.mem_cons_of_mem _ hPM
    refine ⟨_, rfl, .inl ⟨rfl, _, SqL.of hL1⟩, ?_⟩
    refine r_heard (K := c.K) (M := L1 :: M) (q := qAsked) (b := dueB m dx dz x z) T9b (List.mem_cons_of_mem _ hPM) (fun k d v e => ⟨(okB g09 k d v e).1.1, ?_⟩) (told H9 _ g09 rfl rfl rfl) fun H10 T10 g10 T10b n10 r10 => ?_
    · unfold dueB roadB at e
      split at e
      · split at e
        · cases e
        · cases e
          exact x9 hz
      · cases e
        exact x9 hx
    have hL10 := g10.old L1 _ (by simpa using n1P) hL1
    refine r_nil ⟨L1, [.ref T8], .ref T10, rfl, rfl, hL10, by show 1 + 1 ≤ sizeLine; decide, ?_⟩
    have g11 : Go [L1] H10 (upd H10 L1 (.lst [.ref T8, .ref T10])) := Go.put hL10 rfl (by simp)
    have hL11 : (upd H10 L1 (.lst [.ref T8, .ref T10])) L1 = some (.lst [.ref T8, .ref T10]) := upd_same
    have n1H : H L1 = none := g08.free (by simpa using n1P) fL1
    have g011 : Go [P] H (upd H10 L1 (.lst [.ref T8, .ref T10])) := (g09.trans g10).mut n1H
    have T11b : TabS (upd H10 L1 (.lst [.ref T8, .ref T10])) P qAsked := tab_go T10b g11 (by simpa using n1P.symm) fun b hb q' e => by
      rw [List.mem_singleton.mp hb, hL10] at e
      exact nomatch e
    have gL1 : Go (L1 :: M) H10 (upd H10 L1 (.lst [.ref T8, .ref T10])) := g11.mono (by simp)
    have s8 : Rq c.K M (upd H10 L1 (.lst [.ref T8, .ref T10])) (heardD (dueB m dx dz x z)) (.ref T8) := Rq.sub (fun a ha => List.mem_cons_of_mem _ ha) _ _ (Rq.go gL1 _ _ (Rq.go (gL g10) _ _ r8'))
    have s7 : Rq c.K M (upd H10 L1 (.lst [.ref T8, .ref T10])) (heardD (dueB m dx dz x z)) (.ref T7) := Rq.sub (fun a ha => List.mem_cons_of_mem _ ha) _ _ (Rq.go gL1 _ _ (Rq.go (gL g10) _ _ r7'))
    have s10 : Rq c.K M (upd H10 L1 (.lst [.ref T8, .ref T10])) (heardD (dueB m dx dz x z)) (.ref T10) := Rq.sub (fun a ha => List.mem_cons_of_mem _ ha) _ _ (Rq.go gL1 _ _ r10)
    have el : ([.ref T8] ++ [.ref T10] : List V) = [.ref T8, .ref T10] := rfl
    rw [el]
    generalize (upd H10 L1 (.lst [.ref T8, .ref T10])) = H11 at hL11 g011 T11b s8 s7 s10 ⊢
    have rF : Rq c.K M H11 (.list [heardD (dueB m dx dz x z), heardD (dueB m dx dz x z)]) (.ref L1) := by
      simp only [Rq, RqA]
      exact ⟨L1, _, rfl, n1M, ap1, hL11, _, _, rfl, s8, _, _, rfl, s10, rfl⟩
    have smD := heard_sm (b := dueB m dx dz x z) fun k d v e => (okB g09 k d v e).2
    have sm := (two_sm smD smD).2
    have sh := sm_sh sm (by decide) (by decide)
    have dp : ∀ u : Nat, u + 65 < cLine → u + ((PyData.list [heardD (dueB m dx dz x z), heardD (dueB m dx dz x z)]).depth + 1) < cLine := fun u h => by
      have := sm.dp
      omega
    dsimp only [gName, tSeq, tAsg]
    refine ⟨_, rfl, r_nil ⟨M, .ref L1, _, rfl, rF, sh.1, sh.2, dp _ hu5, ⟨_, rfl, _, rfl, r_nil ⟨by show 2 ≤ sizeLine; decide, fun Lu fLu apu => ?_⟩⟩⟩⟩
    have nuM : Lu ∉ M := fun z => Mn g011 T11b Lu z fLu
    have g12 : Go [] H11 (upd H11 Lu (.lst [.ref T7, .ref T7])) := Go.new fLu
    have rU : Rq c.K M (upd H11 Lu (.lst [.ref T7, .ref T7])) (.list [heardD (dueB m dx dz x z), heardD (dueB m dx dz x z)]) (.ref Lu) := by
      have s7' := Rq.go (g12.wide (M := M)) _ _ s7
      simp only [Rq, RqA]
      exact ⟨Lu, _, rfl, nuM, apu, upd_same, _, _, rfl, s7', _, _, rfl, s7', rfl⟩
    generalize (upd H11 Lu (.lst [.ref T7, .ref T7])) = H12 at g12 rU ⊢
    refine r_nil ⟨M, .ref Lu, _, rfl, rU, sh.1, sh.2, dp _ hu5, .inl ⟨rfl, _, rfl, (if_neg (by simp)).mpr ?_⟩⟩
    have g012 := g011.trans g12.wide
    have T12b : TabS H12 P qAsked := tab_go T11b g12 (by simp) (by simp)
    dsimp only [tNext, gName, tSeq, tAsg]
    refine ⟨_, rfl, _, rfl, tif_join (fun v H' => Go [] H12 H' ∧ ∃ T, v = .ref T ∧ Rq c.K M H' (heardD (moreB m dx dy x y)) v) ?_ (fun e K' k' => ?_) (fun e K' k' => ?_)⟩
    rotate_left
    · refine ⟨_, rfl, r_nil ⟨by show 2 ≤ sizeLine; decide, fun T fT => k' _ _ ⟨Go.new fT, T, rfl, ?_⟩⟩⟩
      rw [show moreB m dx dy x y = some (0, dx, x) from if_neg (by simpa using e)]
      exact rq_two (d := .str (wordH 0)) (by simp only [Rq]; rfl) (Rq.go (gP g012) _ _ hx) fT
    · have e' : isWatchD m dx = true := by simpa using e
      refine ⟨_, rfl, _, rfl, tif_join _ k' (fun e K2 k2 => ?_) (fun e K2 k2 => ?_)⟩
      · refine ⟨by show 2 ≤ sizeLine; decide, fun T fT => k2 _ _ ⟨Go.new fT, T, rfl, ?_⟩⟩
        rw [show moreB m dx dy x y = none by rw [moreB, if_pos e', if_pos e]]
        exact rq_fine fT
      · refine ⟨_, rfl, r_nil ⟨by show 2 ≤ sizeLine; decide, fun T fT => k2 _ _ ⟨Go.new fT, T, rfl, ?_⟩⟩⟩
        rw [show moreB m dx dy x y = some (0, dy, y) by rw [moreB, if_pos e', if_neg (by simp [e])]]
        exact rq_two (d := .str (wordH 0)) (by simp only [Rq]; rfl) (Rq.go (gP g012) _ _ hy) fT
    rintro v13 H13 ⟨g13, T13, rfl, r13⟩
    have g013 := g012.trans g13.wide
    have T13b : TabS H13 P qAsked := tab_go T12b g13 (by simp) (by simp)
    have okM : ∀ {H' : Hp}, Go [P] H H' → ∀ k d v, moreB m dx dy x y = some (k, d, v) → (k < 2 ∧ Rq c.K M H' d v) ∧ Fit d := fun {H'} g k d v e => by
      unfold moreB at e
      split at e
      · split at e
        · cases e
        · cases e
          exact ⟨⟨by decide, Rq.go (gP g) _ _ hy⟩, sy⟩
      · cases e
        exact ⟨⟨by decide, Rq.go (gP g) _ _ hx⟩, sx⟩
    have smM := heard_sm (b := moreB m dx dy x y) fun k d v e => (okM g013 k d v e).2
    have shM := sm_sh smM (by decide) (by decide)
    have dpM : ∀ u : Nat, u + 65 < cLine → u + ((heardD (moreB m dx dy x y)).depth + 1) < cLine := fun u h => by
      have := smM.dp
      omega
    refine r_heard (K := c.K) (M := M) (q := qAsked) (b := moreB m dx dy x y) T13b hPM (fun k d v e => (okM g013 k d v e).1) (fun E Q' H1 g1 kf ke => ?_) fun H14 T14 g14 T14b n14 r14 => ?_
    · have g' := g013.trans g1
      refine ⟨_, rfl, _, rfl, _, rfl, M, o, x, y, m, cs, dx, dy, rfl, mx g', hB, Rq.go (gP g') _ _ hx, (by have := sx.1.wt; omega), Rq.go (gP g') _ _ hy, (by have := sy.1.wt; omega), fun e1 e2 H2 v g2 => kf ?_ v H2 g2, fun e1 => ke 0 dx x ?_, fun e1 e2 => ke 0 dy y ?_⟩
      · rw [moreB, if_pos e1, if_pos e2]
      · rw [moreB, if_neg (by simp [e1])]
      · rw [moreB, if_pos e1, if_neg (by simp [e2])]
    have g014 := g013.trans g14
    refine r_nil ⟨M, .ref T14, _, rfl, r14, shM.1, shM.2, dpM _ hu5, ⟨_, rfl, r_nil ⟨M, .ref T13, _, rfl, Rq.go (gP g14) _ _ r13, shM.1, shM.2, dpM _ hu5, .inl ⟨rfl, ?_⟩⟩⟩⟩
    refine ⟨_, rfl, (if_pos (decide_eq_true rfl)).mpr ?_⟩
    refine ⟨_, rfl, _, rfl, r_nil ⟨by show 2 ≤ sizeLine; decide, fun T15 fT15 => ?_⟩⟩
    have r15 := rq_two (Rq.go (gP g014) _ _ hx) (Rq.go (gP g014) _ _ hy) fT15
    have g15 : Go [] H14 (upd H14 T15 (.tup [x, y])) := Go.new fT15
    generalize (upd H14 T15 (.tup [x, y])) = H15 at r15 g15 ⊢
    refine r_nil ⟨M, .ref T15, _, rfl, r15, shw.1, shw.2, dpw _ hu5, ⟨_, rfl, .inl ⟨rfl, ?_⟩⟩⟩
    rw [decide_eq_true rfl]
    exact q H15 (g014.trans g15.wide) (tab_go T14b g15 (by simp) (by simp))
end
end Sd

/-! V09n: drawn watches -/
namespace Sd
open PySem PySem.Spec PyProof.Rows L2 RZ RT
def spDWatch (c : Wd) : Sp := fun vs H Q _ => ∃ (p d : Addr) (m : Mac) (n : Nat), vs = [.ref p, .ref d] ∧ Pot H p n ∧ n ≤ 2 ^ 28 ∧ LoreAt c.K H d m ∧ DrawnM m ∧
  ∀ H' w ws, Go [p] H H' → Pot H' p (n + 12) → WatAt c.K H' w ws → ws.length = m.clock.length → (∀ fs ∈ ws, fs.Sublist m.pages) → Q (.ref w) H'
section
variable {c : Wd}
abbrev s__law_drawn_watch : Stmt := topS 58
abbrev N__law_drawn_watch : List Str := ["_law_pot", "_law_lore_here", "_law_found", "_law_turn", "_law_own", "_law_page"]
abbrev P__law_drawn_watch : List Str := ["_law_pot", "_law_lore_here"]
theorem sc__law_drawn_watch : FnScope N__law_drawn_watch P__law_drawn_watch (defScope s__law_drawn_watch) := ⟨rfl, rfl, rfl, by decide +kernel, rfl, by decide +kernel, by decide +kernel⟩
theorem ok_dwatch (F : At c "_law_drawn_watch" "_law_drawn_watch" s__law_drawn_watch P__law_drawn_watch) (B : Bi c) (D__law_take : Ok c "_law_take" 1 P__law_take spTake) : Ok c "_law_drawn_watch" 2 P__law_drawn_watch (spDWatch c) := by
  refine Ok.of F sc__law_drawn_watch (fun vs H Q E h => ?_) (fun f cdv A out s H vs Q E hr h => ?_)
  · obtain ⟨p, d, m, n, rfl, _⟩ := h
    rfl
  · obtain ⟨p, d, m, n, rfl, hp, hn, hL, hD, q⟩ := h
    have hu1 := hu_of hr
    have hu := hr.units
    have hB := drawn_right hD
    have cl3 : m.clock.length ≤ 3 := by
      simp only [macB, clockB, Bool.and_eq_true, decide_eq_true_eq] at hB
      exact hB.2.1.2.1
    have pl4 : m.pages.length ≤ 4 := by
      simp only [macB, pagesB, Bool.and_eq_true, decide_eq_true_eq] at hB
      exact hB.2.2.1.2.2.1
    have ndp := ne_lore hL hp
    obtain ⟨a1, a2, a3, a5, h1, h2, h3, h4, h5⟩ := hL.ex
    have hcl : (intsV m.clock).length = m.clock.length := by simp [intsV]
    have hpl : (m.pages.map V.str).length = m.pages.length := by simp
    refine ⟨_, (pss_cons (ps_set (i := 2) sc__law_drawn_watch.nd rfl (by first | exact Or.inl rfl | exact Or.inr rfl) (pe_lst pa_nil))
    (pss_cons (ps_for PassesOwn.never rfl (pi_seq (K := c.K) (pe_ixU (K := c.K) hu1 (pv 1) pe_str (fun _ _ => rfl) (fun _ _ => rfl))) (pg_name (i := 3) sc__law_drawn_watch.nd rfl (by first | exact Or.inl rfl | exact Or.inr rfl)) (pss_cons (ps_set (i := 4) sc__law_drawn_watch.nd rfl (by first | exact Or.inl rfl | exact Or.inr rfl) (pe_lst pa_nil))
    (pss_cons (ps_for PassesOwn.never rfl (pi_seq (K := c.K) (pe_ixU (K := c.K) hu1 (pv 1) pe_str (fun _ _ => rfl) (fun _ _ => rfl))) (pg_name (i := 5) sc__law_drawn_watch.nd rfl (by first | exact Or.inl rfl | exact Or.inr rfl)) (pss_one (ps_expr (pe_bm PySem.F.plainAttrs_list PySem.F.slot_list_extend PySem.F.type_list_extend mt_extend (pv 4) (pa_cons (pe_op op_mulU (pe_lst (pa_cons (pv 5) pa_nil)) (pe_callTy call_intU (by rfl) B.int (by decide +kernel) (pa_cons (pe_cmpR op_gtU (pe_f D__law_take (hr.mono (by decide)) (by rfl) (pa_cons (pv 0) (pa_cons pe_int pa_nil))) pe_int (nomark _)) pa_nil))) pa_nil)))))
    (pss_one (ps_expr (pe_bm PySem.F.plainAttrs_list PySem.F.slot_list_append PySem.F.type_list_append mt_append (pv 2) (pa_cons (pe_callTy (call_tupU (K := c.K)) (by rfl) B.tuple (by decide +kernel) (pa_cons (pv 4) pa_nil)) pa_nil)))))))
    (pss_one (ps_ret (pe_callTy (call_tupU (K := c.K)) (by rfl) B.tuple (by decide +kernel) (pa_cons (pv 2) pa_nil)))))), ?_⟩
    refine ⟨Nat.zero_le _, fun t ft => ?_⟩
    have ntp : t ≠ p := fun e => by
      obtain ⟨_, _, _, e1, _⟩ := id hp
      rw [e, e1] at ft
      cases ft
    have g0 : Go [] H (upd H t (.lst [])) := Go.new ft
    have d0 := g0.old d _ (fun z => nomatch z) h1
    refine .inl (.inr (.inr ⟨_, rfl, d, _, rfl, lget d0 lore_clock, a2, rfl, ⟨_, g0.sqT h3⟩, ?_⟩))
    refine for_it (walk_tup (xs := intsV m.clock)) (fun i σ H' => Go [p] H H' ∧ Pot H' p (n + 4 * i) ∧ ∃ (as : List Addr) (ws : List (List Str)) (z3 z4 z5 : Option V), H' t = some (.lst (as.map V.ref)) ∧ NmsAt c.K H' as ws ∧ as.length = i ∧ (∀ fs ∈ ws, fs.Sublist m.pages) ∧
      σ = [some (.ref p), some (.ref d), some (.ref t), z3, z4, z5]) ?_ (fun i σ H' _ h => h.1.sqT h3) ?_ ?_
    · exact ⟨g0.wide, hp.go g0, [], [], _, _, _, upd_same, ⟨rfl, fun j x r e => by simp at e⟩, rfl, (fun fs h => nomatch h), rfl⟩
    · rintro i x σ H2 H3 hi ⟨g2, hp2, as, ws, z3, z4, z5, k1, k2, k3, k4, rfl⟩ ⟨rfl, hx⟩
      rw [hcl] at hi
      refine ⟨Nat.zero_le _, fun lt flt => ?_⟩
      have ltp : lt ≠ p := fun e => by
        obtain ⟨_, _, _, e1, _⟩ := id hp2
        rw [e, e1] at flt
        cases flt
      have ltt : lt ≠ t := fun e => by rw [e, k1] at flt; cases flt
      have g4 : Go [] H3 (upd H3 lt (.lst [])) := Go.new flt
      have flt0 : H lt = none := by
        cases e : H lt with
        | none => rfl
        | some o =>
          have := g2.old lt o (by simpa using ltp) e
          rw [this] at flt
          cases flt
      have d4 := g4.old d _ (fun z => nomatch z) (g2.old d _ (by simpa using ndp) h1)
      refine .inl (.inr (.inr ⟨_, rfl, d, _, rfl, lget d4 lore_pages, a3, rfl, ⟨_, g4.sqT (g2.sqT h4)⟩, ?_⟩))
      refine for_it (walk_tup (xs := m.pages.map V.str)) (fun j σ H' => Go [p] H H' ∧ Pot H' p (n + 4 * i + j) ∧ H' t = some (.lst (as.map V.ref)) ∧ NmsAt c.K H' as ws ∧
        ∃ (os : List Str) (y5 : Option V), H' lt = some (.lst (os.map V.str)) ∧ os.Sublist (m.pages.take j) ∧ σ = [some (.ref p), some (.ref d), some (.ref t), some x, some (.ref lt), y5]) ?_ (fun j σ H' _ h => h.1.sqT h4) ?_ ?_
      · exact ⟨g2.trans g4.wide, hp2.go g4, g4.old t _ (fun z => nomatch z) k1, k2.go g4, [], _, upd_same, List.nil_sublist _, rfl⟩
      · rintro j y σ H4 H5 hj ⟨g5, hp4, m1, m4, os, y5, m5, m6, rfl⟩ ⟨rfl, hy⟩
        rw [hpl] at hj
        have ey := str_at hy
        subst ey
        obtain ⟨pg, hpg⟩ : ∃ pg, m.pages[j]? = some pg := ⟨_, List.getElem?_eq_getElem hj⟩
        have epg : m.pages.getD j Str.empty = pg := by rw [List.getD_eq_getElem?_getD, hpg]; rfl
        rw [epg]
        refine ⟨_, rfl, .inl ⟨rfl, _, SqL.of m5⟩, _, rfl, by show 1 ≤ sizeLine; decide, fun b1 fb1 => ?_⟩
        have gb1 : Go [] H5 (upd H5 b1 (.lst [.str pg])) := Go.new fb1
        have hb1 : (upd H5 b1 (.lst [.str pg])) b1 = some (.lst [.str pg]) := upd_same
        have b1p : b1 ≠ p := fun e => by
          obtain ⟨_, _, _, e1, _⟩ := id hp4
          rw [e, e1] at fb1
          cases fb1
        refine ⟨_, rfl, p, n + 4 * i + j, 5, rfl, hp4.go gb1, by omega, by decide, by decide, fun r H6 hr6 g6 hp6 => r_gtI (.inr ⟨_, rfl, ?_⟩)⟩
        have hb16 := g6.old b1 _ (by simpa using b1p) hb1
        have eu : (if decide ((r : Int) > 1) = true then (1 : Int) else 0) = ((if 1 < r then 1 else 0 : Nat) : Int) := by
          by_cases h0 : 1 < r
          · rw [if_pos h0, decide_eq_true (by omega)]
            rfl
          · rw [if_neg h0, decide_eq_false (by omega)]
            rfl
        rw [eu]
        obtain ⟨u, hu'⟩ : ∃ u : Nat, u = if 1 < r then 1 else 0 := ⟨_, rfl⟩
        rw [← hu']
        have u1 : u ≤ 1 := by
          rw [hu']
          split <;> omega
        refine .inr ⟨b1, (u : Int), [.str pg], rfl, rfl, hb16, by omega, by omega, by rw [sizeLine_eq]; simp; omega, fun b2 fb2 => ?_⟩
        have el : (List.replicate ((u : Int)).toNat [V.str pg]).flatten = (if u = 0 then [] else [pg]).map V.str := by
          rw [Int.toNat_natCast]
          rcases (by omega : u = 0 ∨ u = 1) with z | z <;> rw [z] <;> rfl
        rw [el]
        have gb2 : Go [] H6 (upd H6 b2 (.lst ((if u = 0 then [] else [pg]).map V.str))) := Go.new fb2
        have hb2 : (upd H6 b2 (.lst ((if u = 0 then [] else [pg]).map V.str))) b2 = some (.lst ((if u = 0 then [] else [pg]).map V.str)) := upd_same
        have G : Go [p] H5 (upd H6 b2 (.lst ((if u = 0 then [] else [pg]).map V.str))) := gb1.wide.trans (g6.trans gb2.wide)
        have hp7 := hp6.go gb2
        generalize (upd H6 b2 (.lst ((if u = 0 then [] else [pg]).map V.str))) = H7 at hb2 G hp7 ⊢
        have lt7 := G.old lt _ (by simpa using ltp) m5
        have t7 := G.old t _ (by simpa using ntp) m1
        have ol : os.length ≤ 4 := by
          have := m6.length_le
          rw [List.length_take] at this
          omega
        have le1 : (if u = 0 then [] else [pg]).length ≤ 1 := by split <;> simp
        refine r_nil ⟨lt, b2, _, _, rfl, rfl, lt7, hb2, by simp only [List.length_map]; rw [sizeLine_eq]; omega, ?_⟩
        have gp : Go [lt] H7 (upd H7 lt (.lst (os.map V.str ++ (if u = 0 then [] else [pg]).map V.str))) := Go.put lt7 rfl (List.Mem.head _)
        refine ⟨(g5.trans G).mut flt0, ?_, ?_, (m4.go G).go gp, os ++ (if u = 0 then [] else [pg]), _, ?_, ?_, rfl⟩
        · obtain ⟨x1, x2, x3, x4, x5⟩ := hp7
          exact ⟨x1, x2, x3, by rw [upd_ne ltp.symm]; exact x4, by omega⟩
        · rw [upd_ne ltt.symm]
          exact t7
        · rw [List.map_append]
          exact upd_same
        · have e1 : m.pages.take (j + 1) = m.pages.take j ++ [pg] := by
            rw [List.take_add_one, hpg]
            rfl
          rw [e1]
          refine m6.append ?_
          split
          · exact List.nil_sublist _
          · exact List.Sublist.refl _
      · rintro σ H4 ⟨g5, hp4, m1, m4, os, y5, m5, m6, rfl⟩
        rw [hpl] at hp4 m6
        rw [List.take_length] at m6
        refine ⟨_, rfl, .inl ⟨rfl, _, SqL.of m1⟩, _, rfl, r_nil ⟨lt, _, rfl, .inl ⟨SqL.of m5, fun b fb => r_nil ?_⟩⟩⟩
        have gb : Go [] H4 (upd H4 b (.tup (os.map V.str))) := Go.new fb
        have hb : SqT c.K (upd H4 b (.tup (os.map V.str))) b (os.map V.str) := SqT.of upd_same
        have t4 := gb.old t _ (fun z => nomatch z) m1
        have hp5 := hp4.go gb
        generalize (upd H4 b (.tup (os.map V.str))) = H5 at gb hb t4 hp5 ⊢
        refine ⟨t, as.map V.ref, .ref b, rfl, rfl, t4, by rw [List.length_map, sizeLine_eq]; omega, ?_⟩
        have gp : Go [t] H5 (upd H5 t (.lst (as.map V.ref ++ [.ref b]))) := Go.put t4 rfl (List.Mem.head _)
        have ft0 : H t = none := ft
        refine ⟨(g5.trans gb.wide).mut ft0, ?_, as ++ [b], ws ++ [os], _, _, _, ?_, ?_, by simp [k3], ?_, rfl⟩
        · obtain ⟨x1, x2, x3, x4, x5⟩ := hp5
          exact ⟨x1, x2, x3, by rw [upd_ne ntp.symm]; exact x4, by omega⟩
        · rw [List.map_append]
          exact upd_same
        · refine ((m4.go gb).go gp).app ⟨rfl, fun j x r e1 e2 => ?_⟩
          cases j with
          | zero =>
            have e1' : b = x := by simpa using e1
            have e2' : os = r := by simpa using e2
            subst e1' e2'
            exact gp.sqT hb
          | succ j => simp at e1
        · intro fs hf
          rcases List.mem_append.mp hf with z | z
          · exact k4 fs z
          · rw [List.mem_singleton.mp z]
            exact m6
    · rintro σ H2 ⟨g2, hp2, as, ws, z3, z4, z5, k1, k2, k3, k4, rfl⟩
      rw [hcl] at hp2 k3
      refine ⟨_, rfl, r_nil ⟨t, _, rfl, .inl ⟨SqL.of k1, fun b fb => ?_⟩⟩⟩
      have gb : Go [] H2 (upd H2 b (.tup (as.map V.ref))) := Go.new fb
      exact q _ b ws (g2.trans gb.wide) ((hp2.go gb).up (by omega)) ⟨as, SqT.of upd_same, k2.1, fun j a fs e1 e2 => gb.sqT (k2.2 j a fs e1 e2)⟩ (by rw [← k2.1, k3]) k4
end
end Sd

/-! V09l: watches asked of one drawn machine, right -/
namespace Sd
open PySem PySem.Spec PyProof.Rows L2 RZ RT LamX
theorem MacAt.goP {K : PySem.W.Frag} {C : Addr} {H H' : Hp} {o p : Addr} {n : Nat} {m : Mac} {cs : List (List Nat)} (h : MacAt K C H o m cs) (g : Go [p] H H') (hp : Pot H p n) : MacAt K C H' o m cs := by
  obtain ⟨dx, fs, a1, a2, a3, a5, a6, a7, d1, d2, ts, kv1, kv2, e0, e1, e2, e3, e4, e5, e6, e7, e8, e9, e10, e11, e12, e13, e14, e15, e16, e17, e18, e19, e20, e21, e22, e23⟩ := h.ex
  obtain ⟨_, _, _, ep, _⟩ := hp
  have kp : ∀ b kvs, H b = some (.dK kvs) → H' b = some (.dK kvs) := fun b kvs e => g.old b _ (fun z => by rw [List.mem_singleton.mp z, ep] at e; cases e) e
  refine ⟨dx, fs, a1, a2, a3, a5, a6, a7, d1, d2, ts, kv1, kv2, g.fix o _ rfl e0, e1, e2.go g, e3, g.sqT e4, e5, g.sqT e6, e7, e8, g.sqT e9, e10, g.sqT e11, e12, g.sqT e13, e14, fun j t ix z1 z2 => g.sqT (e15 j t ix z1 z2), e16, kp _ _ e17, e18, e19, kp _ _ e20, e21, fun i s q z1 z2 => ?_, e23⟩
  obtain ⟨f, z, z'⟩ := e22 i s q z1 z2
  exact ⟨f, z, g.sqT z'⟩
def rMulT (K : PySem.W.Frag) : R2 := fun x y H Q => rRepT K x y H Q ∨ rRep01 K x y H Q
theorem op_mulT {X : Cx} {K : PySem.W.Frag} (hK : X.K = K := by rfl) : OpR X (binaryOp .Mult) (rMulT K) := by subst hK; exact OpR.or op_repT op_rep01
/-- a thing that fits -/
def FitV (K : PySem.W.Frag) (M : List Addr) (H : Hp) (v : V) : Prop := ∃ d, Rq K M H d v ∧ Fit d
theorem FitV.go {K : PySem.W.Frag} {M : List Addr} {H H' : Hp} {v : V} (h : FitV K M H v) (g : Go M H H') : FitV K M H' v := let ⟨d, a, b⟩ := h; ⟨d, Rq.go g d v a, b⟩
/-- an expression that gives a thing that fits, and draws -/
def GvF (K : PySem.W.Frag) (M : List Addr) (p : Addr) (H0 : Hp) (σ : L2.St) (n n' : Nat) (te : TE) : Prop := ∀ H (Q : VK), Go [p] H0 H → Pot H p n → (∀ v H', Go [p] H H' → Pot H' p n' → FitV K M H' v → Q v H') → te σ H Q
def GvA (K : PySem.W.Frag) (M : List Addr) (p : Addr) (H0 : Hp) (σ : L2.St) (n n' k : Nat) (ta : TA) : Prop := ∀ H (Q : List V → Hp → Prop), Go [p] H0 H → Pot H p n → (∀ vs H', Go [p] H H' → Pot H' p n' → vs.length = k → (∀ y ∈ vs, FitV K M H' y) → Q vs H') → ta σ H Q
section
variable {K : PySem.W.Frag} {M : List Addr} {p : Addr} {H0 : Hp} {σ : L2.St} {n n1 n2 k : Nat} {te : TE} {ta : TA}
theorem gvA_nil : GvA K M p H0 σ n n 0 tNil := fun H Q _ hp q => q [] H (Go.refl _ _) hp rfl (fun y h => nomatch h)
theorem gvA_cons (hM : p ∈ M) (h1 : GvF K M p H0 σ n n1 te) (h2 : GvA K M p H0 σ n1 n2 k ta) : GvA K M p H0 σ n n2 (k + 1) (tCons te ta) := fun H Q g hp q => h1 H _ g hp fun v H1 g1 hp1 f1 => h2 H1 _ (g.trans g1) hp1 fun vs H2 g2 hp2 l f2 => q (v :: vs) H2 (g1.trans g2) hp2 (by simp [l]) fun y hy => by
  rcases List.mem_cons.mp hy with z | z
  · rw [z]
    exact f1.go (g2.mono fun a ha => by rw [List.mem_singleton.mp ha]; exact hM)
  · exact f2 y z
theorem gv_var {i : Nat} {v : V} (h : σ[i]? = some (some v)) (hM : p ∈ M) (f : FitV K M H0 v) : GvF K M p H0 σ n n (tVar i) := fun H Q g hp q => ⟨v, h, q v H (Go.refl _ _) hp (f.go (g.mono fun a ha => by rw [List.mem_singleton.mp ha]; exact hM))⟩
theorem fit_unit : Fit (.tuple []) := ⟨⟨rfl, by decide, by decide⟩, by decide⟩
theorem gv_unit : GvF K M p H0 σ n n (tTup tNil) := fun H Q g hp q => ⟨Nat.zero_le _, fun T fT => q _ _ (Go.new fT) (hp.go (Go.new fT)) ⟨.tuple [], by simp only [Rq, RqA]; exact ⟨T, [], rfl, SqT.of upd_same, rfl⟩, fit_unit⟩⟩
end
theorem rqA_nms {K : PySem.W.Frag} {M : List Addr} {H : Hp} : ∀ {as : List Addr} {rs : List (List Str)}, NmsAt K H as rs → RqA K M H (rs.map namesD) (as.map V.ref)
  | [], [], _ => by simp only [List.map_nil, RqA]
  | a :: as, r :: rs, h => by
    simp only [List.map_cons, RqA]
    exact ⟨_, _, rfl, rq_tup (h.2 0 a r rfl rfl), rqA_nms ⟨by have := h.1; simpa using this, fun j x q e1 e2 => h.2 (j + 1) x q (by simpa using e1) (by simpa using e2)⟩⟩
  | [], _ :: _, h => absurd h.1 (by simp)
  | _ :: _, [], h => absurd h.1 (by simp)
theorem ltr_one {k : Nat} (h : k < 8) : sgB (ltr k) = true ∧ (ltr k).length = 1 := by
  rcases (by omega : k = 0 ∨ k = 1 ∨ k = 2 ∨ k = 3 ∨ k = 4 ∨ k = 5 ∨ k = 6 ∨ k = 7) with z | z | z | z | z | z | z | z <;> subst z <;> decide +kernel
section
variable {J : It} {n : Nat} {G : Hp → Prop} {Y : Nat → Hp → V → Hp → Prop}
theorem lc_mapM (w : Walk J n G Y) {g : TG} {te : TE} {vs : List Nat} {σ : L2.St} {H1 : Hp} {D : Addr} {Qd : Hp → Prop} (M : List Addr) (Z : Nat → Hp → Prop) (R : Nat → V → Hp → Prop)
    (hy : Yk Y) (hn : n ≤ 100000) (hD : H1 D = none) (hM : ∀ a ∈ M, H1 a ≠ none) (gG : ∀ H, Go M H1 H → G H) (z0 : Z 0 H1) (zm : ∀ i H H', Z i H → (∀ a ∈ M, H' a = H a) → Z i H')
    (rm : ∀ i y H H', Go (D :: M) H H' → R i y H → R i y H')
    (turn : ∀ i x H H' (Fin : V → Hp → Prop), i < n → Go M H1 H → H' D ≠ none → Go [] H H' → Z i H → Y i H x H' →
      (∀ y H4, Go M H H4 → Z (i + 1) H4 → R i y H4 → Fin y H4) → g x (wipe σ vs) H' fun σ2 H2 => wipe σ2 vs = wipe σ vs ∧ te σ2 H2 Fin)
    (done : ∀ H ys, Go M H1 H → Z n H → H D = some (.lst ys) → ys.length = n → (∀ (i : Nat) (y : V), ys[i]? = some y → R i y H) → Qd H) :
    ∃ W : Nat → Nat → Hp → Prop, (∃ m, W 0 m (upd H1 D (.lst []))) ∧ ∀ i m H, W i m H →
      (J.stop i H ∧ Qd H) ∨ (J.go i H ∧ ∃ Nx : Hp → Prop, (∀ H', Nx H' → ∃ m', m' < m ∧ W (i + 1) m' H') ∧ ∀ x H', J.yld i H x H' → g x (wipe σ vs) H' fun σ2 H2 => wipe σ2 vs = wipe σ vs ∧ tYes σ2 H2 fun b H3 =>
        if b = true then te σ2 H3 fun y H4 => ∃ acc, H4 D = some (.lst acc) ∧ acc.length < sizeLine ∧ Nx (upd H4 D (.lst (acc ++ [y]))) else Nx H3) := by
  have hDM : D ∉ M := fun h => hM D h hD
  have nM : ∀ {H : Hp} {o : HO}, ∀ a ∈ M, (upd H D o) a = H a := fun a ha => upd_ne fun e => hDM (e ▸ ha)
  refine lc_it w (fun i H => ∃ ys, Go M H1 H ∧ Z i H ∧ H D = some (.lst ys) ∧ ys.length = i ∧ ∀ (k : Nat) (y : V), ys[k]? = some y → R k y H)
    ⟨[], (Go.refl M H1).mut hD, zm 0 H1 _ z0 nM, upd_same, rfl, fun k y e => by simp at e⟩ (fun i H _ ⟨_, g1, _⟩ => gG H g1) ?_ (fun H ⟨ys, g1, z, d, l, r⟩ => done H ys g1 z d l r)
  rintro i x H H' hi ⟨ys, g1, z, d, l, r⟩ y
  have gy := hy i H x H' y
  refine turn i x H H' _ hi g1 (by rw [gy.old D _ (by simp) d]; exact fun z => nomatch z) gy z y ?_
  intro v H4 g4 z4 r4
  have d4 : H4 D = some (.lst ys) := g4.old D _ hDM d
  have gD : Go (D :: M) H4 (upd H4 D (.lst (ys ++ [v]))) := Go.put d4 rfl (List.Mem.head _)
  refine ⟨ys, d4, Nat.lt_of_lt_of_le (show ys.length < 100000 by omega) (by decide), ys ++ [v], (g1.trans g4).mut hD, zm _ H4 _ z4 nM, upd_same, by simp [l], ?_⟩
  intro k y' ek
  by_cases hk : k < ys.length
  · rw [List.getElem?_append_left hk] at ek
    exact rm _ _ _ _ gD (rm _ _ _ _ (g4.mono fun b hb => List.mem_cons_of_mem _ hb) (r k y' ek))
  · have hk2 : k = ys.length := by
      have := (List.getElem?_eq_some_iff.mp ek).1
      simp at this
      omega
    subst hk2
    rw [List.getElem?_append_right (Nat.le_refl _)] at ek
    simp at ek
    subst ek
    rw [l]
    exact rm _ _ _ _ gD r4
end
/-- a letter, as drawn -/
def letB (z : Str) : Bool := sgB z && (decide (z.length = 1) && PyData.strOk z)
theorem letB_of {z : Str} (h : letB z = true) : sgB z = true ∧ z.length = 1 ∧ PyData.strOk z = true := by
  simp only [letB, Bool.and_eq_true, decide_eq_true_eq] at h
  exact h
theorem ltr_let {k : Nat} (h : k < 8) : letB (ltr k) = true := by
  rcases (by omega : k = 0 ∨ k = 1 ∨ k = 2 ∨ k = 3 ∨ k = 4 ∨ k = 5 ∨ k = 6 ∨ k = 7) with z | z | z | z | z | z | z | z <;> subst z <;> decide +kernel
theorem pqrs_let : ∀ z ∈ pqrs, letB z = true := by
  intro z hz
  simp only [pqrs, List.mem_cons, List.not_mem_nil, or_false] at hz
  rcases hz with e | e | e | e <;> subst e <;> decide +kernel
theorem wt_lets : ∀ {zs : List Str}, (∀ z ∈ zs, letB z = true) → wtA (zs.map PyData.str) = 2 * zs.length
  | [], _ => rfl
  | z :: zs, h => by
    have h1 := letB_of (h z List.mem_cons_self)
    have h2 := wt_lets (zs := zs) fun y hy => h y (List.mem_cons_of_mem _ hy)
    simp only [List.map_cons, wtA, wt, List.length_cons, h2, h1.2.1]
    omega
theorem ttA_all : ∀ {ds : List PyData}, (∀ d ∈ ds, ttB d = true) → ttA ds = true
  | [], _ => rfl
  | d :: ds, h => by
    simp only [ttA, Bool.and_eq_true]
    exact ⟨h d List.mem_cons_self, ttA_all fun x hx => h x (List.mem_cons_of_mem _ hx)⟩
/-- what is small, of texts and tuples -/
structure Sml (w p : Nat) (d : PyData) : Prop where
  sm : Sm (10 ^ 18) w p d
  tx : txB 20 d = true
theorem Sml.fit {w p : Nat} {d : PyData} (h : Sml w p d) (hw : w ≤ 500) (hp : p ≤ 60) : Fit d := ⟨h.sm.up hw hp, tx_up (by decide) d h.tx⟩
theorem sml_names {zs : List Str} (h : ∀ z ∈ zs, letB z = true) (l : zs.length ≤ 20) : Sml (1 + 2 * zs.length) 1 (namesD zs) ∧ ttB (namesD zs) = true := by
  refine ⟨⟨(sm_tup (fun d hd => ?_) (by rw [wt_lets h]; exact Nat.le_refl _) (Nat.le_refl _)).1, (tx_tup (by rw [List.length_map]; exact l) fun d hd => ?_).1⟩, ttA_all fun d hd => ?_⟩
  all_goals
    obtain ⟨z, hz, rfl⟩ := List.mem_map.mp hd
  · exact ⟨(letB_of (h z hz)).1, Nat.le_refl _⟩
  · exact (letB_of (h z hz)).2.2
  · rfl
def rowsOk (ws : List (List Str)) : Prop := ws.length ≤ 4 ∧ ∀ fs ∈ ws, fs.length ≤ 4 ∧ ∀ z ∈ fs, letB z = true
theorem wt_rows : ∀ {ws : List (List Str)}, (∀ fs ∈ ws, fs.length ≤ 4 ∧ ∀ z ∈ fs, letB z = true) → wtA (ws.map namesD) ≤ 9 * ws.length
  | [], _ => Nat.le_refl _
  | fs :: ws, h => by
    obtain ⟨l, h1⟩ := h fs List.mem_cons_self
    have h2 := wt_rows (ws := ws) fun y hy => h y (List.mem_cons_of_mem _ hy)
    have h3 := wt_lets h1
    have h4 : wt (namesD fs) = 1 + wtA (fs.map PyData.str) := rfl
    simp only [List.map_cons, wtA, List.length_cons, h4]
    omega
theorem sml_rows {ws : List (List Str)} (h : rowsOk ws) : (Sml 40 2 (.tuple (ws.map namesD)) ∧ Sml 40 2 (.list (ws.map namesD))) ∧ ttB (.tuple (ws.map namesD)) = true := by
  have wr := wt_rows h.2
  have l4 := h.1
  have s1 := sm_tup (B := 10 ^ 18) (w := 40) (p := 2) (ds := ws.map namesD) (fun d hd => ?_) (by omega) (by decide)
  have s2 := tx_tup (n := 20) (ds := ws.map namesD) (by rw [List.length_map]; omega) (fun d hd => ?_)
  · refine ⟨⟨⟨s1.1, s2.1⟩, ⟨s1.2, s2.2⟩⟩, ttA_all fun d hd => ?_⟩
    obtain ⟨fs, hf, rfl⟩ := List.mem_map.mp hd
    exact (sml_names (h.2 fs hf).2 (by have := (h.2 fs hf).1; omega)).2
  · obtain ⟨fs, hf, rfl⟩ := List.mem_map.mp hd
    exact (sml_names (h.2 fs hf).2 (by have := (h.2 fs hf).1; omega)).1.tx
  · obtain ⟨fs, hf, rfl⟩ := List.mem_map.mp hd
    have := (sml_names (h.2 fs hf).2 (by have := (h.2 fs hf).1; omega)).1.sm
    exact ⟨this.ok, by have := this.dp; omega⟩
theorem rqA_rep {K : PySem.W.Frag} {M : List Addr} {H : Hp} {d : PyData} {v : V} (h : Rq K M H d v) : ∀ k, RqA K M H (List.replicate k d) (List.replicate k v)
  | 0 => by simp only [List.replicate, RqA]
  | k + 1 => by
    simp only [List.replicate, RqA]
    exact ⟨v, _, rfl, h, rqA_rep h k⟩
theorem rq_tupX {K : PySem.W.Frag} {M : List Addr} {H : Hp} {a : Addr} {xs : List V} {ds : List PyData} (h : SqT K H a xs) (r : RqA K M H ds xs) : Rq K M H (.tuple ds) (.ref a) := by
  simp only [Rq]
  exact ⟨a, xs, rfl, h, r⟩
theorem rq_lstX {K : PySem.W.Frag} {M : List Addr} {H : Hp} {a : Addr} {xs : List V} {ds : List PyData} (n : a ∉ M) (ap : (a == sysModules) = false) (h : H a = some (.lst xs)) (r : RqA K M H ds xs) : Rq K M H (.list ds) (.ref a) := by
  simp only [Rq]
  exact ⟨a, xs, rfl, n, ap, h, r⟩
theorem r_catQ {K : PySem.W.Frag} {H : Hp} {Q : VK} {a b : Addr} {xs ys : List V} (h1 : SqT K H a xs) (h2 : SqT K H b ys) (l : xs.length + ys.length ≤ sizeLine) (n : xs ≠ []) (k : ∀ p H', Go [] H H' → SqT K H' p (xs ++ ys) → Q (.ref p) H') : rAddQ K (.ref a) (.ref b) H Q :=
  .inl (.inr (.inr ⟨a, b, xs, ys, rfl, rfl, h1, h2, l, fun z => absurd z n, fun _ z => k a H (Go.refl _ _) (by rw [z, List.append_nil]; exact h1), fun _ _ p hp => k p _ (Go.new hp) (SqT.of upd_same)⟩))
theorem rqA_const {K : PySem.W.Frag} {M : List Addr} {H : Hp} {d : PyData} : ∀ {ys : List V}, (∀ y ∈ ys, Rq K M H d y) → RqA K M H (List.replicate ys.length d) ys
  | [], _ => by simp only [List.length_nil, List.replicate, RqA]
  | y :: ys, h => by
    simp only [List.length_cons, List.replicate, RqA]
    exact ⟨y, ys, rfl, h y List.mem_cons_self, rqA_const fun z hz => h z (List.mem_cons_of_mem _ hz)⟩
theorem r_mulT {K : PySem.W.Frag} {H : Hp} {Q : VK} {T : Addr} {x : V} {k : Nat} (h : SqT K H T [x]) (k1 : 1 ≤ k) (k2 : k ≤ 1000) (q : ∀ R H', Go [] H H' → SqT K H' R (List.replicate k x) → Q (.ref R) H') : rMulT K (.ref T) (.int (k : Nat)) H Q := by
  by_cases e : k = 1
  · subst e
    exact .inr ⟨T, 1, [x], rfl, rfl, h, by simp, .inl ⟨rfl, q T H (Go.refl _ _) h⟩⟩
  · refine .inl ⟨T, (k : Int), [x], rfl, rfl, h, by simp, by omega, by omega, by simp, fun R hR => q R _ (Go.new hR) ?_⟩
    have e2 : (List.replicate (k : Int).toNat [x]).flatten = List.replicate k x := by
      rw [Int.toNat_natCast, List.flatten_replicate_singleton]
    rw [e2]
    exact SqT.of upd_same
def spRight (c : Wd) (P : Addr) : Sp := fun vs H Q _ => ∃ (p : Addr) (n : Nat), vs = [.ref p] ∧ Pot H p n ∧ n ≤ 2 ^ 27 ∧ TabS H P qAsked ∧ ∀ H', Go [p, P] H H' → Pot H' p (n + 3000) → TabS H' P qAsked → Q (.bl true) H'
section
variable {c : Wd} {C P : Addr}
abbrev s__law_right : Stmt := topS 68
abbrev N__law_right : List Str := ["_law_pot", "_law_lore_here", "_law_whole", "_law_roads", "_law_some", "_law_thing", "_law_made_here", "_law_watch", "_law_other", "_law_ticks", "_law_turn"]
abbrev P__law_right : List Str := ["_law_pot"]
theorem sc__law_right : FnScope N__law_right P__law_right (defScope s__law_right) := ⟨rfl, rfl, rfl, by decide +kernel, rfl, by decide +kernel, by decide +kernel⟩
theorem ok_right (F : At c "_law_right" "_law_right" s__law_right P__law_right) (B : Bi c) (D__law_lore : Ok c "_law_lore" 4 P__law_lore (spLore c)) (D__law_made : Ok c "_law_made" 7 P__law_made (spLMade c C)) (D__law_drawn_watch : Ok c "_law_drawn_watch" 2 P__law_drawn_watch (spDWatch c)) (D__law_drawn_run : Ok c "_law_drawn_run" 3 P__law_drawn_run (spLRun c))
    (D__law_odd : Ok c "_law_odd" 3 P__law_odd (spOdd c)) (D__law_of : Ok c "_law_of" 2 P__law_of (spDrawn c)) (D__law_bent : Ok c "_law_bent" 7 P__law_bent (spB9 c 2)) (D__law_asked_right : OkG c "_law_asked_right" 12 P__law_asked_right (spAsked c C P)) : OkG c "_law_right" 13 P__law_right (spRight c P) := by
  refine OkG.of F sc__law_right (fun vs H Q E h => ?_) (fun f cdv A out s H vs Q E hG hr h => ?_)
  · obtain ⟨p, n, rfl, _⟩ := h
    rfl
  · obtain ⟨p, n, rfl, hp, hn, hT, q⟩ := h
    have hu1 := hu_of hr
    have hu := hr.units
    have hu5 := hr.u5
    refine ⟨_, (pss_cons (ps_set (i := 1) sc__law_right.nd rfl (by first | exact Or.inl rfl | exact Or.inr rfl) (pe_f D__law_lore (hr.mono (by omega)) (by rfl) (pa_cons (pv 0) (pa_cons pe_int (pa_cons pe_int (pa_cons pe_int (pa_cons pe_int pa_nil)))))))
    (pss_cons (ps_asg (pe_tup (pa_cons (pe_f D__law_made (hr.mono (by omega)) (by rfl) (pa_cons (pv 1) pa_nil)) (pa_cons (pe_f D__law_drawn_watch (hr.mono (by omega)) (by rfl) (pa_cons (pv 0) (pa_cons (pv 1) pa_nil))) pa_nil))) (pg_tupU (K := c.K) (n := 2) rfl (pgs_cons (pg_name (i := 6) sc__law_right.nd rfl (by first | exact Or.inl rfl | exact Or.inr rfl)) (pgs_cons (pg_name (i := 7) sc__law_right.nd rfl (by first | exact Or.inl rfl | exact Or.inr rfl)) pgs_nil))))
    (pss_cons (ps_set (i := 2) sc__law_right.nd rfl (by first | exact Or.inl rfl | exact Or.inr rfl) (pe_callTy (call_tupU (K := c.K)) (by rfl) B.tuple (by decide +kernel) (pa_cons (pe_lc (own := [("_law_ticks", 9)]) rfl sc__law_right.nd (pi_seq (K := c.K) (pe_ixU (K := c.K) hu1 (pv 1) pe_str (fun _ _ => rfl) (fun _ _ => rfl))) (blkOk_by (N := N__law_right) (sc := defScope s__law_right) (by decide +kernel)) (fun _ _ _ _ _ => (pg_name (i := 9) sc__law_right.nd rfl (by first | exact Or.inl rfl | exact Or.inr rfl))) (fun _ _ _ _ _ => pts_nil) (fun _ _ _ _ _ => (pe_ixU (K := c.K) hu1 (pv 1) pe_str (fun _ _ => rfl) (fun _ _ => rfl)))) pa_nil)))
    (pss_cons (ps_set (i := 3) sc__law_right.nd rfl (by first | exact Or.inl rfl | exact Or.inr rfl) (pe_lstS (pa_cons (pe_f D__law_drawn_run (hr.mono (by omega)) (by rfl) (pa_cons (pv 0) (pa_cons (pv 1) (pa_cons pe_int pa_nil)))) (pa_cons (pe_tup pa_nil) (pa_cons pe_non (pa_cons (pe_tup (pa_cons pe_str pa_nil)) (pa_cons (pe_lstS (pa_cons (pe_ixU (K := c.K) hu1 (pe_ixU (K := c.K) hu1 (pe_ixU (K := c.K) hu1 (pv 1) pe_str (fun _ _ => rfl) (fun _ _ => rfl)) pe_int (fun _ _ => rfl) (fun _ _ => rfl)) pe_int (fun _ _ => rfl) (fun _ _ => rfl)) pa_nil)) pa_nil)))))))
    (pss_cons (ps_set (i := 4) sc__law_right.nd rfl (by first | exact Or.inl rfl | exact Or.inr rfl) (pe_lstS (pa_cons (pv 7) (pa_cons (pv 2) (pa_cons (pe_callTy (call_tupU (K := c.K)) (by rfl) B.tuple (by decide +kernel) (pa_cons (pe_lc (own := [("_law_ticks", 9)]) rfl sc__law_right.nd (pi_seq (K := c.K) (pe_ixU (K := c.K) hu1 (pv 1) pe_str (fun _ _ => rfl) (fun _ _ => rfl))) (blkOk_by (N := N__law_right) (sc := defScope s__law_right) (by decide +kernel)) (fun _ _ _ _ _ => (pg_name (i := 9) sc__law_right.nd rfl (by first | exact Or.inl rfl | exact Or.inr rfl))) (fun _ _ _ _ _ => pts_nil) (fun _ _ _ _ _ => (pe_tup pa_nil))) pa_nil)) (pa_cons (pe_tup pa_nil) (pa_cons (pe_op (op_addQ (K := c.K)) (pv 7) (pe_tup (pa_cons (pe_tup pa_nil) pa_nil))) (pa_cons (pe_callTy (call_lstQ (K := c.K)) (by rfl) B.list (by decide +kernel) (pa_cons (pv 7) pa_nil)) (pa_cons (pe_slice (sl_U (K := c.K)) (pv 2) (po_some pe_int) po_none) pa_nil)))))))))
    (pss_cons (ps_set (i := 4) sc__law_right.nd rfl (by first | exact Or.inl rfl | exact Or.inr rfl) (pe_op (op_addQ (K := c.K)) (pv 4) (pe_lstS (pa_cons (pe_f D__law_odd (hr.mono (by omega)) (by rfl) (pa_cons (pv 0) pa_nil)) (pa_cons (pe_f D__law_odd (hr.mono (by omega)) (by rfl) (pa_cons (pv 0) pa_nil)) (pa_cons (pe_op (op_mulT (K := c.K)) (pe_tup (pa_cons (pe_backT (K := c.K) (pe_ixU (K := c.K) hu1 (pv 1) pe_str (fun _ _ => rfl) (fun _ _ => rfl))) pa_nil)) (pe_callB (call_lenU (K := c.K)) (by rfl) B.len (by decide +kernel) (pa_cons (pv 2) pa_nil))) (pa_cons (pe_op (op_mulT (K := c.K)) (pe_tup (pa_cons (pe_tup (pa_cons pe_bl pa_nil)) pa_nil)) (pe_callB (call_lenU (K := c.K)) (by rfl) B.len (by decide +kernel) (pa_cons (pv 2) pa_nil))) pa_nil)))))))
    (pss_cons (ps_set (i := 4) sc__law_right.nd rfl (by first | exact Or.inl rfl | exact Or.inr rfl) (pe_op (op_addQ (K := c.K)) (pv 4) (pe_lc (own := [("_law_turn", 10)]) rfl sc__law_right.nd (pi_range1 (by rfl) B.range (pa_cons pe_int pa_nil)) (blkOk_by (N := N__law_right) (sc := defScope s__law_right) (by decide +kernel)) (fun _ _ _ _ _ => (pg_name (i := 10) sc__law_right.nd rfl (by first | exact Or.inl rfl | exact Or.inr rfl))) (fun _ _ _ _ _ => pts_nil) (fun _ _ _ _ _ => (pe_f D__law_bent (hr.mono (by omega)) (by rfl) (pa_cons (pv 0) (pa_cons (pe_f D__law_of (hr.mono (by omega)) (by rfl) (pa_cons (pv 0) (pa_cons (pe_lstS (pa_cons (pv 7) (pa_cons (pv 2) pa_nil))) pa_nil))) (pa_cons pe_int pa_nil))))))))
    (pss_cons (ps_for PassesOwn.never rfl (pi_seq (K := c.K) (pv 4)) (pg_name (i := 5) sc__law_right.nd rfl (by first | exact Or.inl rfl | exact Or.inr rfl)) (pss_cons (ps_set (i := 8) sc__law_right.nd rfl (by first | exact Or.inl rfl | exact Or.inr rfl) (pe_f D__law_of (hr.mono (by omega)) (by rfl) (pa_cons (pv 0) (pa_cons (pe_op (op_addQ (K := c.K)) (pv 4) (pe_lstS (pa_cons (pv 7) (pa_cons (pv 2) pa_nil)))) pa_nil))))
    (pss_one (ps_if (pt_not (pt_val (pe_fG D__law_asked_right hG (hr.mono (by omega)) (by rfl) (pa_cons (pv 1) (pa_cons (pv 6) (pa_cons (pv 5) (pa_cons (pv 8) (pa_cons (pe_f D__law_of (hr.mono (by omega)) (by rfl) (pa_cons (pv 0) (pa_cons (pv 3) pa_nil))) pa_nil)))))))) (pss_one (ps_ret pe_bl)) pss_nil))))
    (pss_one (ps_ret pe_bl)))))))))), ?_⟩
    refine ⟨_, rfl, p, n, 4, 4, 3, 3, rfl, hp, by omega, by decide, by decide, by decide, by decide, by decide, by decide, by decide, by decide, fun H1 d m fd g1 hp1 hL hD hm3 => ?_⟩
    have ndp := ne_lore hL hp1
    have hB := drawn_right hD
    obtain ⟨tb, atP⟩ := tab_at hT
    have nPp : P ≠ p := fun e => by
      obtain ⟨_, _, _, e1, _⟩ := id hp
      rw [← e, atP] at e1
      cases e1
    have tabp : ∀ {G G' : Hp} {k : Nat}, TabS G P qAsked → Pot G p k → Go [p] G G' → TabS G' P qAsked := fun t hq g => tab_go t g (by simpa using nPp) fun b hb q' e => by
      rw [List.mem_singleton.mp hb] at e
      obtain ⟨_, _, _, e1, _⟩ := id hq
      rw [e1] at e
      exact nomatch e
    have T1 := tabp hT hp g1
    refine ⟨_, rfl, d, m, rfl, hL, hD, fun H2 o cs g2 hM hC hS => ⟨_, rfl, _, rfl, p, d, m, n + 120, rfl, hp1.go g2, by omega, hL.go g2 (by simp), hD, fun H3 w ws g3 hp3 hW hwl hsub => r_nil ⟨by show 2 ≤ sizeLine; decide, fun T fT => ⟨T, _, rfl, SqT.of upd_same, rfl, _, _, rfl, _, _, rfl, rfl, ?_⟩⟩⟩⟩
    have g4 : Go [] H3 (upd H3 T (.tup [.ref o, .ref w])) := Go.new fT
    have g24 : Go [p] H2 (upd H3 T (.tup [.ref o, .ref w])) := g3.trans g4.wide
    have hM4 := hM.goP g24 (hp1.go g2)
    have hL4 := (hL.go g2 (by simp)).go g24 (by simpa using ndp)
    have hp4 := hp3.go g4
    have hW4 := hW.go g4
    have g04 := g1.trans (g2.wide.trans g24)
    have T4 := tabp hT hp g04
    generalize (upd H3 T (.tup [.ref o, .ref w])) = H4 at hM4 hL4 hp4 hW4 g04 T4 ⊢
    clear g4 g24
    obtain ⟨a1, a2, a3, a5, h1, ⟨vs, k1, k2, k3⟩, h3, h4, h5⟩ := id hL4.ex
    have hcl : (intsV m.clock).length = m.clock.length := by simp [intsV]
    have cl3 : 1 ≤ m.clock.length ∧ m.clock.length ≤ 3 := by
      simp only [macB, clockB, Bool.and_eq_true, decide_eq_true_eq] at hB
      exact ⟨hB.2.1.1, hB.2.1.2.1⟩
    dsimp only [tSeq, tAsg]
    -- whole
    refine .inl (.inr (.inr ⟨_, rfl, d, _, rfl, lget h1 lore_clock, a2, rfl, ⟨_, h3⟩, fun D hDn => ?_⟩))
    refine lc_map (walk_tup (xs := intsV m.clock)) [] (fun _ _ => True) (fun _ y _ => y = .ref a3) yk_at (by rw [hcl]; omega) hDn (fun _ h => nomatch h) (fun H' g => g.sqT h3) trivial (fun _ _ _ _ _ => trivial) (fun _ _ _ _ _ _ h => h) ?_ ?_
    · rintro j y H2' H3' Fin hj g2' g3' _ ⟨rfl, hx⟩ fin
      exact ⟨rfl, .inr ⟨_, rfl, d, _, rfl, lget (g2'.old d _ (by simp) h1) lore_pages, fin _ _ (Go.refl _ _) trivial rfl⟩⟩
    intro H5 ys g5 _ hD5 hl5 hr5
    have eys : ys = List.replicate m.clock.length (V.ref a3) := List.eq_replicate_iff.mpr ⟨by rw [hl5, hcl], fun y hy => by
      obtain ⟨i, hi⟩ := List.mem_iff_getElem?.mp hy
      exact hr5 i y hi⟩
    subst eys
    refine r_nil ⟨D, _, rfl, .inl ⟨SqL.of hD5, fun W2 fW2 => ?_⟩⟩
    have g6 : Go [] H5 (upd H5 W2 (.tup (List.replicate m.clock.length (V.ref a3)))) := Go.new fW2
    have hW2 : SqT c.K (upd H5 W2 (.tup (List.replicate m.clock.length (V.ref a3)))) W2 (List.replicate m.clock.length (V.ref a3)) := SqT.of upd_same
    dsimp only [gName, tSeq, tAsg]
    have g46 := g5.trans g6
    generalize (upd H5 W2 (.tup (List.replicate m.clock.length (V.ref a3)))) = H6 at g46 hW2 ⊢
    have hM6 := hM4.go g46
    have hL6 := hL4.go g46 (by simp)
    have hp6 := hp4.go g46
    have hW6 := hW4.go g46
    have T6 := tab_go T4 g46 (by simp) (by simp)
    have hpg := g46.sqT h4
    have h16 := g46.old d _ (by simp) h1
    have hPM : ∀ {G : Hp} {k : Nat}, Pot G p k → TabS G P qAsked → ∀ b ∈ [p, P], G b ≠ none := fun hq t b hb => by
      simp only [List.mem_cons, List.not_mem_nil, or_false] at hb
      rcases hb with e | e <;> rw [e]
      · obtain ⟨_, _, _, e1, _⟩ := hq
        rw [e1]
        exact fun z => nomatch z
      · rw [(tab_at t).choose_spec]
        exact fun z => nomatch z
    have t6 := hPM hp6 T6
    have ok6 : ∀ {G : Hp} {k : Nat}, Go [p] H6 G → Pot G p k → ∀ b ∈ [p, P], G b ≠ none := fun g hq => hPM hq (tabp T6 hp6 g)
    have pM : p ∈ [p, P] := by simp
    obtain ⟨np, N, kk, hpq, n2, n4, N1, N8, hdr, _⟩ := id hD.ex
    have pgl : ∀ z ∈ m.pages, letB z = true := fun z hz => pqrs_let z (by rw [hpq] at hz; exact List.mem_of_mem_take hz)
    have pg4 : m.pages.length ≤ 4 := by rw [hpq, List.length_take]; omega
    have hsl : m.steps.length = N := hdr.1
    have sml : ∀ s, (∃ i : Nat, m.steps[i]? = some s) → letB s.name = true := fun s ⟨i, hi⟩ => by
      have lt := (List.getElem?_eq_some_iff.mp hi).1
      rw [(hdr.2 i s hi).name]
      exact ltr_let (by omega)
    -- the watches as data
    have okw : rowsOk ws := ⟨by omega, fun fs hf => ⟨by have := (hsub fs hf).length_le; omega, fun z hz => pgl z ((hsub fs hf).subset hz)⟩⟩
    have okW : rowsOk (List.replicate m.clock.length m.pages) := ⟨by rw [List.length_replicate]; omega, fun fs hf => by
      rw [List.eq_of_mem_replicate hf]
      exact ⟨pg4, pgl⟩⟩
    obtain ⟨asw, w1, w2, w3⟩ := id hW6.ex
    have rw6 : ∀ {M' : List Addr} {G : Hp}, Go [p] H6 G → RqA c.K M' G (ws.map namesD) (asw.map V.ref) := fun g => rqA_nms ⟨w2, fun j a fs e1 e2 => g.sqT (w3 j a fs e1 e2)⟩
    have rW6 : ∀ {M' : List Addr} {G : Hp}, Go [p] H6 G → RqA c.K M' G ((List.replicate m.clock.length m.pages).map namesD) (List.replicate m.clock.length (V.ref a3)) := fun g => by
      rw [List.map_replicate]
      exact rqA_rep (rq_tup (g.sqT hpg)) _
    have fw : ∀ {G : Hp}, Go [p] H6 G → Rq c.K [p, P] G (.tuple (ws.map namesD)) (.ref w) := fun g => rq_tupX (g.sqT w1) (rw6 g)
    have fW : ∀ {G : Hp}, Go [p] H6 G → Rq c.K [p, P] G (.tuple ((List.replicate m.clock.length m.pages).map namesD)) (.ref W2) := fun g => rq_tupX (g.sqT hW2) (rW6 g)
    have sw := sml_rows okw
    have sW := sml_rows okW
    -- roads
    obtain ⟨s0, hs0⟩ : ∃ s, m.steps[0]? = some s := ⟨_, List.getElem?_eq_getElem (by omega)⟩
    obtain ⟨v0, hv0⟩ : ∃ v, vs[0]? = some v := ⟨_, List.getElem?_eq_getElem (by omega)⟩
    obtain ⟨b0, fl0, rfl, e01, e02⟩ := k3 0 v0 s0 hv0 hs0
    have roads : ∀ σ : L2.St, σ[0]? = some (some (.ref p)) → σ[1]? = some (some (.ref d)) → GvA c.K [p, P] p H6 σ (n + 132) (n + 139) 5 (tCons (tCall (spLRun c) [] E0 (tCons (tVar 0) (tCons (tVar 1) (tCons (tC (V.int 6)) tNil))))
        (tCons (tTup tNil) (tCons (tC V.non) (tCons (tTup (tCons (tC (V.str "zz")) tNil)) (tCons (tLstS (tCons (tIx c.K (tIx c.K (tIx c.K (tVar 1) (tC (V.str "steps"))) (tC (V.int 0))) (tC (V.int 0))) tNil)) tNil))))) := by
      intro σ s0' s1'
      refine gvA_cons (n1 := n + 139) pM (fun G Q g hq k => ?_) (gvA_cons (n1 := n + 139) pM gv_unit (gvA_cons (n1 := n + 139) pM (fun G Q g hq k => ?_) (gvA_cons (n1 := n + 139) pM (fun G Q g hq k => ?_) (gvA_cons (n1 := n + 139) pM (fun G Q g hq k => ?_) gvA_nil))))
      · refine ⟨_, s0', _, s1', p, d, m, n + 132, 6, rfl, hq, by omega, by decide, by decide, hL6.go g (by simpa using ndp), hD, fun G' r ss g' hq' hr' hrun l1 l2 => k _ _ g' hq' ⟨namesD (ss.map Stp.name), rq_tup hr', ?_⟩⟩
        have fn := (sml_names (zs := ss.map Stp.name) (fun z hz => by
          obtain ⟨s, hs, rfl⟩ := List.mem_map.mp hz
          exact sml s (hrun.2 s hs)) (by rw [List.length_map]; omega)).1
        exact fn.fit (by rw [List.length_map]; omega) (by decide)
      · exact k _ _ (Go.refl _ _) hq ⟨.none, by simp only [Rq], ⟨rfl, by decide, by decide⟩, rfl⟩
      · refine ⟨by show 1 ≤ sizeLine; decide, fun T fT => k _ _ (Go.new fT) (hq.go (Go.new fT)) ⟨namesD ["zz"], rq_tup (SqT.of upd_same), ⟨by decide +kernel, by decide +kernel, by decide +kernel⟩, by decide +kernel⟩⟩
      · have h1' := g.old d _ (by simpa using ndp) h16
        have k1' : SqT c.K G a1 vs := (g46.sqT k1 |> g.sqT)
        refine .inl (.inl (.inr ⟨_, s1', d, _, rfl, lget h1' lore_steps, ixT (i := 0) k1' hv0 (ixT (i := 0) (g.sqT (g46.sqT e01)) rfl (r_nil ⟨by show 1 ≤ sizeLine; decide, fun L fL ap => ?_⟩))⟩))
        have nL : L ∉ [p, P] := fun z => ok6 g hq L z fL
        refine k _ _ (Go.new fL) (hq.go (Go.new fL)) ⟨.list [.str s0.name], rq_lstX nL ap upd_same (by simp only [RqA]; exact ⟨_, _, rfl, by simp only [Rq], rfl⟩), ?_⟩
        obtain ⟨z1, z2, z3⟩ := letB_of (sml s0 ⟨0, hs0⟩)
        refine ⟨(sm_tup (fun x hx => ?_) ?_ (by decide)).2, (tx_tup (by show 1 ≤ 50; decide) fun x hx => ?_).2⟩
        · rw [List.mem_singleton.mp hx]
          exact ⟨z1, by show 0 + 1 ≤ 60; decide⟩
        · show 1 + (s0.name.length + 1 + 0) ≤ 500
          omega
        · rw [List.mem_singleton.mp hx]
          exact z3
    refine roads _ rfl rfl H6 _ (Go.refl _ _) (hp6.up (by omega)) fun rs H7 g7 hp7 lr fr => ⟨by rw [lr]; show 5 ≤ sizeLine; decide, fun LR fLR apR => ?_⟩
    have g8 : Go [] H7 (upd H7 LR (.lst rs)) := Go.new fLR
    have hLR : (upd H7 LR (.lst rs)) LR = some (.lst rs) := upd_same
    have fr8 : ∀ y ∈ rs, FitV c.K [p, P] (upd H7 LR (.lst rs)) y := fun y hy => (fr y hy).go g8.wide
    have nLR : LR ∉ [p, P] := fun z => ok6 g7 hp7 LR z fLR
    dsimp only [gName, tSeq, tAsg]
    have g68 := g7.trans g8.wide
    have hp8 := hp7.go g8
    generalize (upd H7 LR (.lst rs)) = H8 at g68 hp8 hLR fr8 ⊢
    -- things
    have some1 : ∀ (x3 x4 x5 x8 x9 x10 : Option V) (k : Nat), GvA c.K [p, P] p H6 [some (.ref p), some (.ref d), some (.ref W2), x3, x4, x5, some (.ref o), some (.ref w), x8, x9, x10] k k 7 (tCons (tVar 7) (tCons (tVar 2) (tCons
        (tCB (rTupU c.K) (tCons (tLc (iSeq c.K (tIx c.K (tVar 1) (tC (V.str "clock")))) (gName 9) tYes (tTup tNil) [9]) tNil))
        (tCons (tTup tNil) (tCons (tOp (rAddQ c.K) (tVar 7) (tTup (tCons (tTup tNil) tNil))) (tCons (tCB (rLstQ c.K) (tCons (tVar 7) tNil)) (tCons (tSl (rSlU c.K) (tVar 2) (tPart (tC (V.int 1))) tNoPart) tNil))))))) := by
      intro x3 x4 x5 x8 x9 x10 k
      have s1' : ([some (.ref p), some (.ref d), some (.ref W2), x3, x4, x5, some (.ref o), some (.ref w), x8, x9, x10] : L2.St)[1]? = some (some (.ref d)) := rfl
      have s2' : ([some (.ref p), some (.ref d), some (.ref W2), x3, x4, x5, some (.ref o), some (.ref w), x8, x9, x10] : L2.St)[2]? = some (some (.ref W2)) := rfl
      have s7' : ([some (.ref p), some (.ref d), some (.ref W2), x3, x4, x5, some (.ref o), some (.ref w), x8, x9, x10] : L2.St)[7]? = some (some (.ref w)) := rfl
      refine gvA_cons (n1 := k) pM (gv_var s7' pM ⟨_, fw (Go.refl _ _), sw.1.1.fit (by decide) (by decide)⟩) (gvA_cons (n1 := k) pM (gv_var s2' pM ⟨_, fW (Go.refl _ _), sW.1.1.fit (by decide) (by decide)⟩)
        (gvA_cons (n1 := k) pM (fun G Q g hq kk => ?_) (gvA_cons (n1 := k) pM gv_unit (gvA_cons (n1 := k) pM (fun G Q g hq kk => ?_) (gvA_cons (n1 := k) pM (fun G Q g hq kk => ?_) (gvA_cons (n1 := k) pM (fun G Q g hq kk => ?_) gvA_nil))))))
      · have h1' := g.old d _ (by simpa using ndp) h16
        have h3' := g.sqT (g46.sqT h3)
        refine .inl (.inr (.inr ⟨_, s1', d, _, rfl, lget h1' lore_clock, a2, rfl, ⟨_, h3'⟩, fun D hDn => ?_⟩))
        refine lc_map (walk_tup (xs := intsV m.clock)) [] (fun _ _ => True) (fun _ y H' => ∃ e, y = .ref e ∧ SqT c.K H' e []) yk_at (by rw [hcl]; omega) hDn (fun _ h => nomatch h) (fun H' g => g.sqT h3') trivial (fun _ _ _ _ _ => trivial) (fun _ _ _ _ _ g' h => let ⟨e, e1, e2⟩ := h; ⟨e, e1, g'.sqT e2⟩) ?_ ?_
        · rintro j y H2' H3' Fin hj g2' g3' _ ⟨rfl, hx⟩ fin
          exact ⟨rfl, Nat.zero_le _, fun T fT => fin _ _ (Go.new fT) trivial ⟨T, rfl, SqT.of upd_same⟩⟩
        intro G1 ys gg _ hDD hll hrr
        refine r_nil ⟨D, _, rfl, .inl ⟨SqL.of hDD, fun T fT => kk _ _ (gg.trans (Go.new fT)).wide (hq.go (gg.trans (Go.new fT))) ?_⟩⟩
        have hy : ∀ y ∈ ys, Rq c.K [p, P] (upd G1 T (.tup ys)) (namesD []) y := fun y hy => by
          obtain ⟨i, hi⟩ := List.mem_iff_getElem?.mp hy
          obtain ⟨e, rfl, he⟩ := hrr i y hi
          exact rq_tup ((Go.new (M := []) fT).sqT he)
        refine ⟨.tuple ((List.replicate ys.length ([] : List Str)).map namesD), rq_tupX (SqT.of upd_same) (by rw [List.map_replicate]; exact rqA_const hy), ?_⟩
        exact (sml_rows ⟨by rw [List.length_replicate, hll, hcl]; omega, fun fs hf => by rw [List.eq_of_mem_replicate hf]; exact ⟨by decide, fun z hz => nomatch hz⟩⟩).1.1.fit (by decide) (by decide)
      · refine ⟨_, s7', ⟨Nat.zero_le _, fun T fT => ⟨by show 1 ≤ sizeLine; decide, fun T2 fT2 => ?_⟩⟩⟩
        have gT : Go [] G (upd (upd G T (.tup [])) T2 (.tup [.ref T])) := (Go.new fT).trans (Go.new fT2)
        have hT1 : SqT c.K (upd (upd G T (.tup [])) T2 (.tup [.ref T])) T [] := (Go.new (M := []) fT2).sqT (SqT.of upd_same)
        have hT2 : SqT c.K (upd (upd G T (.tup [])) T2 (.tup [.ref T])) T2 [.ref T] := SqT.of upd_same
        generalize (upd (upd G T (.tup [])) T2 (.tup [.ref T])) = G2 at gT hT1 hT2 ⊢
        refine r_catQ ((g.trans gT.wide).sqT w1) hT2 (by rw [List.length_map, w2, sizeLine_eq]; show ws.length + 1 ≤ _; omega) (fun z => by
          have : ws.length = 0 := by rw [← w2, ← List.length_map (f := V.ref), z]; rfl
          omega) fun R G' g' hR => kk _ _ (gT.trans g').wide (hq.go (gT.trans g')) ⟨.tuple ((ws ++ [[]]).map namesD), ?_, ?_⟩
        · rw [List.map_append]
          refine rq_tupX hR (RqA.app (rw6 ((g.trans gT.wide).trans g'.wide)) ?_)
          simp only [List.map_cons, List.map_nil, RqA]
          exact ⟨_, _, rfl, rq_tup (zs := []) (g'.sqT hT1), rfl⟩
        · refine (sml_rows ⟨by rw [List.length_append]; show ws.length + 1 ≤ 4; omega, fun fs hf => ?_⟩).1.1.fit (by decide) (by decide)
          rcases List.mem_append.mp hf with h | h
          · exact okw.2 fs h
          · rw [List.mem_singleton.mp h]
            exact ⟨by decide, fun z hz => nomatch hz⟩
      · refine ⟨_, s7', r_nil ⟨w, _, rfl, g.sqT w1, fun L fL ap => kk _ _ (Go.new fL) (hq.go (Go.new fL)) ⟨.list (ws.map namesD), rq_lstX (fun z => ok6 g hq L z fL) ap upd_same (rw6 (g.trans (Go.new fL))), sw.1.2.fit (by decide) (by decide)⟩⟩⟩
      · refine ⟨_, s2', 1, rfl, ?_⟩
        refine r_slT (hi := none) (lo := some 1) (g.sqT hW2) fun R G' g' hR => kk _ _ g'.wide (hq.go g') ⟨.tuple (((List.replicate m.clock.length m.pages).drop 1).map namesD), ?_, ?_⟩
        · have hR' : SqT c.K G' R ((List.replicate m.clock.length (V.ref a3)).drop 1) := by
            rw [← cut_from 1]
            exact hR
          rw [List.drop_replicate] at hR'
          rw [List.drop_replicate, List.map_replicate]
          exact rq_tupX hR' (rqA_rep (rq_tup ((g.trans g'.wide).sqT hpg)) _)
        · exact (sml_rows ⟨by rw [List.length_drop, List.length_replicate]; omega, fun fs hf => okW.2 fs (List.mem_of_mem_drop hf)⟩).1.1.fit (by decide) (by decide)
    refine some1 _ _ _ _ _ _ _ H8 _ g68 hp8 fun vs1 H9 g9 hp9 l1 f1 => ⟨by rw [l1]; show 7 ≤ sizeLine; decide, fun L1 fL1 apL1 => ?_⟩
    have g10 : Go [] H9 (upd H9 L1 (.lst vs1)) := Go.new fL1
    have hL1 : (upd H9 L1 (.lst vs1)) L1 = some (.lst vs1) := upd_same
    have f10 : ∀ y ∈ vs1, FitV c.K [p, P] (upd H9 L1 (.lst vs1)) y := fun y hy => (f1 y hy).go g10.wide
    have nL1 : L1 ∉ [p, P] := fun z => ok6 (g68.trans g9) hp9 L1 z fL1
    dsimp only [gName, tSeq, tAsg]
    have g610 := g68.trans (g9.trans g10.wide)
    have hLR10 := g10.old LR _ (by simp) (g9.old LR _ (by simp at nLR; simp [nLR]) hLR)
    have fr10 : ∀ y ∈ rs, FitV c.K [p, P] (upd H9 L1 (.lst vs1)) y := fun y hy => ((fr8 y hy).go (g9.mono (by simp))).go g10.wide
    have hp10 := hp9.go g10
    generalize (upd H9 L1 (.lst vs1)) = H10 at g610 hp10 hL1 f10 hLR10 fr10 ⊢
    -- more things
    have odd : ∀ (σ : L2.St) (k : Nat), k ≤ 2 ^ 28 → σ[0]? = some (some (.ref p)) → GvF c.K [p, P] p H6 σ k (k + 20) (tCall (spOdd c) [] E0 (tCons (tVar 0) tNil)) := fun σ k hk s0' G Q g hq kk =>
      ⟨_, s0', p, k, [p, P], rfl, hq, by omega, pM, ok6 g hq, fun v dd G' g' hq' r sm tx => kk v G' g' hq' ⟨dd, r, sm.up (by decide) (by decide), tx_up (by decide) dd tx⟩⟩
    have some2 : ∀ (x3 x4 x5 x8 x9 x10 : Option V) (k : Nat), k + 40 ≤ 2 ^ 28 → GvA c.K [p, P] p H6 [some (.ref p), some (.ref d), some (.ref W2), x3, x4, x5, some (.ref o), some (.ref w), x8, x9, x10] k (k + 40) 4 (tCons (tCall (spOdd c) [] E0 (tCons (tVar 0) tNil)) (tCons (tCall (spOdd c) [] E0 (tCons (tVar 0) tNil))
        (tCons (tOp (rMulT c.K) (tTup (tCons (tBackT c.K (tIx c.K (tVar 1) (tC (V.str "pages")))) tNil)) (tCB (rLenU c.K) (tCons (tVar 2) tNil))) (tCons (tOp (rMulT c.K) (tTup (tCons (tTup (tCons (tC (V.bl true)) tNil)) tNil)) (tCB (rLenU c.K) (tCons (tVar 2) tNil))) tNil)))) := by
      intro x3 x4 x5 x8 x9 x10 k hk
      have ln : ∀ {G : Hp} {Q : VK}, Go [p] H6 G → Q (.int (m.clock.length : Nat)) G → tCB (rLenU c.K) (tCons (tVar 2) tNil) [some (.ref p), some (.ref d), some (.ref W2), x3, x4, x5, some (.ref o), some (.ref w), x8, x9, x10] G Q := fun g hq => by
        refine ⟨_, rfl, r_nil (r_lenT (g.sqT hW2) ?_)⟩
        rw [List.length_replicate]
        exact hq
      refine gvA_cons (n1 := k + 20) pM (odd _ k (by omega) rfl) (gvA_cons (n1 := k + 40) pM (odd _ (k + 20) (by omega) rfl) (gvA_cons (n1 := k + 40) pM (fun G Q g hq kk => ?_) (gvA_cons (n1 := k + 40) pM (fun G Q g hq kk => ?_) gvA_nil)))
      · have h1' := g.old d _ (by simpa using ndp) h16
        refine .inr ⟨_, rfl, d, _, rfl, lget h1' lore_pages, a3, _, rfl, g.sqT hpg, fun B fB => ⟨by show 1 ≤ sizeLine; decide, fun T fT => ?_⟩⟩
        have gT : Go [] G (upd (upd G B (.tup (m.pages.map V.str).reverse)) T (.tup [.ref B])) := (Go.new fB).trans (Go.new fT)
        have hB1 : SqT c.K (upd (upd G B (.tup (m.pages.map V.str).reverse)) T (.tup [.ref B])) B (m.pages.reverse.map V.str) := by
          rw [List.map_reverse]
          exact (Go.new (M := []) fT).sqT (SqT.of upd_same)
        have hT1 : SqT c.K (upd (upd G B (.tup (m.pages.map V.str).reverse)) T (.tup [.ref B])) T [.ref B] := SqT.of upd_same
        generalize (upd (upd G B (.tup (m.pages.map V.str).reverse)) T (.tup [.ref B])) = G2 at gT hB1 hT1 ⊢
        refine ln (g.trans gT.wide) (r_mulT hT1 (by omega) (by omega) fun R G' g' hR => kk _ _ (gT.trans g').wide (hq.go (gT.trans g')) ⟨.tuple ((List.replicate m.clock.length m.pages.reverse).map namesD), ?_, ?_⟩)
        · rw [List.map_replicate]
          exact rq_tupX hR (rqA_rep (rq_tup (g'.sqT hB1)) _)
        · exact (sml_rows ⟨by rw [List.length_replicate]; omega, fun fs hf => by
            rw [List.eq_of_mem_replicate hf, List.length_reverse]
            exact ⟨pg4, fun z hz => pgl z (List.mem_reverse.mp hz)⟩⟩).1.1.fit (by decide) (by decide)
      · refine ⟨by show 1 ≤ sizeLine; decide, fun B fB => ⟨by show 1 ≤ sizeLine; decide, fun T fT => ?_⟩⟩
        have gT : Go [] G (upd (upd G B (.tup [.bl true])) T (.tup [.ref B])) := (Go.new fB).trans (Go.new fT)
        have hB1 : SqT c.K (upd (upd G B (.tup [.bl true])) T (.tup [.ref B])) B [.bl true] := (Go.new (M := []) fT).sqT (SqT.of upd_same)
        have hT1 : SqT c.K (upd (upd G B (.tup [.bl true])) T (.tup [.ref B])) T [.ref B] := SqT.of upd_same
        generalize (upd (upd G B (.tup [.bl true])) T (.tup [.ref B])) = G2 at gT hB1 hT1 ⊢
        refine ln (g.trans gT.wide) (r_mulT hT1 (by omega) (by omega) fun R G' g' hR => kk _ _ (gT.trans g').wide (hq.go (gT.trans g')) ⟨.tuple (List.replicate m.clock.length (.tuple [.bool true])), ?_, ?_⟩)
        · refine rq_tupX hR (rqA_rep (rq_tupX (g'.sqT hB1) ?_) _)
          simp only [RqA]
          exact ⟨_, _, rfl, by simp only [Rq], rfl⟩
        · rcases (by omega : m.clock.length = 1 ∨ m.clock.length = 2 ∨ m.clock.length = 3) with e | e | e <;> rw [e] <;> exact ⟨⟨by decide +kernel, by decide +kernel, by decide +kernel⟩, by decide +kernel⟩
    refine ⟨_, rfl, some2 _ _ _ _ _ _ (n + 139) (by omega) H10 _ g610 hp10 fun vs2 H11 g11 hp11 l2 f2 => ⟨by rw [l2]; show 4 ≤ sizeLine; decide, fun L2' fL2 apL2 => ?_⟩⟩
    have g12 : Go [] H11 (upd H11 L2' (.lst vs2)) := Go.new fL2
    have hL2 : (upd H11 L2' (.lst vs2)) L2' = some (.lst vs2) := upd_same
    have f12 : ∀ y ∈ vs2, FitV c.K [p, P] (upd H11 L2' (.lst vs2)) y := fun y hy => (f2 y hy).go g12.wide
    have hL112 := g12.old L1 _ (by simp) (g11.old L1 _ (by simp at nL1; simp [nL1]) hL1)
    have hLR12 := g12.old LR _ (by simp) (g11.old LR _ (by simp at nLR; simp [nLR]) hLR10)
    have wP : ∀ {G G' : Hp}, Go [p] G G' → Go [p, P] G G' := fun g => g.mono (by simp)
    have g612 := g610.trans (g11.trans g12.wide)
    have f112 : ∀ y ∈ vs1 ++ vs2, FitV c.K [p, P] (upd H11 L2' (.lst vs2)) y := fun y hy => by
      rcases List.mem_append.mp hy with h | h
      · exact ((f10 y h).go (wP g11)).go g12.wide
      · exact f12 y h
    have fr12 : ∀ y ∈ rs, FitV c.K [p, P] (upd H11 L2' (.lst vs2)) y := fun y hy => ((fr10 y hy).go (wP g11)).go g12.wide
    have hp12 := hp11.go g12
    generalize (upd H11 L2' (.lst vs2)) = H12 at g612 hp12 hL2 f12 f112 fr12 hL112 hLR12 ⊢
    refine .inl (.inr (.inl ⟨L1, L2', _, _, rfl, rfl, hL112, hL2, by rw [l1, l2]; show 7 + 4 ≤ sizeLine; decide, fun L3 fL3 => ?_⟩))
    have g13 : Go [] H12 (upd H12 L3 (.lst (vs1 ++ vs2))) := Go.new fL3
    have hL3 : (upd H12 L3 (.lst (vs1 ++ vs2))) L3 = some (.lst (vs1 ++ vs2)) := upd_same
    have f13 : ∀ y ∈ vs1 ++ vs2, FitV c.K [p, P] (upd H12 L3 (.lst (vs1 ++ vs2))) y := fun y hy => (f112 y hy).go g13.wide
    have fr13 : ∀ y ∈ rs, FitV c.K [p, P] (upd H12 L3 (.lst (vs1 ++ vs2))) y := fun y hy => (fr12 y hy).go g13.wide
    have nL3 : L3 ∉ [p, P] := fun z => ok6 g612 hp12 L3 z fL3
    have hLR13 := g13.old LR _ (by simp) hLR12
    have g613 := g612.trans g13.wide
    have hp13 := hp12.go g13
    have l13 : (vs1 ++ vs2).length = 11 := by rw [List.length_append, l1, l2]
    dsimp only [gName, tSeq, tAsg]
    generalize (upd H12 L3 (.lst (vs1 ++ vs2))) = H13 at g613 hp13 hL3 f13 fr13 hLR13 ⊢
    generalize vs1 ++ vs2 = vs3 at hL3 f13 l13 ⊢
    have T13 := tabp T6 hp6 g613
    refine ⟨_, rfl, 12, rfl, by decide, by decide, fun D hD' => ?_⟩
    refine lc_mapM (walk_range (lo := 0) (n := 12)) [p] (fun i H' => Pot H' p (n + 179 + 121 * i)) (fun i y H' => FitV c.K [D, p, P] H' y) yk_fn (by decide) hD' (fun b hb => ?_) (fun _ _ => trivial) (hp13.up (by omega)) (fun i H' H'' hz hk' => ?_) (fun i y H' H'' g h => h.go (g.mono (by simp))) ?_ ?_
    · rw [List.mem_singleton.mp hb]
      obtain ⟨_, _, _, e, _⟩ := hp13
      rw [e]
      exact fun z => nomatch z
    · obtain ⟨a1, a2, a3, e, r⟩ := hz
      exact ⟨a1, a2, a3, by rw [hk' p (List.mem_singleton.mpr rfl)]; exact e, r⟩
    · rintro i y G3 G4 Fin hi g3 nD g4 hz ⟨rfl, rfl⟩ fin
      have nDp : D ≠ p := fun z => by
        obtain ⟨_, _, _, e, _⟩ := id hp13
        rw [← z, hD'] at e
        cases e
      have g64 := g613.trans (g3.trans g4.wide)
      refine ⟨rfl, _, rfl, _, rfl, _, rfl, _, rfl, r_nil ⟨by show 2 ≤ sizeLine; decide, fun L fL ap => ?_⟩⟩
      have gL : Go [] G4 (upd G4 L (.lst [.ref w, .ref W2])) := Go.new fL
      have hq4 := hz.go g4
      have hq5 := hq4.go gL
      have nLp : L ≠ p := fun z => ok6 g64 hq4 L (by simp [z]) fL
      refine r_nil ⟨p, L, n + 179 + 121 * i, [.ref w, .ref W2], rfl, hq5, by omega, by simp, by simp, .inl ⟨nLp, upd_same⟩, fun r v G5 hv g5 hp5 => r_c (r_nil ?_)⟩
      have g45 : Go [p] G4 G5 := gL.wide.trans g5
      have g65 := g64.trans g45
      have mD : ∀ b ∈ [D, p, P], G5 b ≠ none := fun b hb => by
        rcases List.mem_cons.mp hb with e | e
        · rw [e]
          obtain ⟨o', ho'⟩ : ∃ o', G4 D = some o' := by
            cases e : G4 D with
            | none => exact absurd e nD
            | some o' => exact ⟨o', rfl⟩
          rw [g45.old D o' (by simpa using nDp) ho']
          exact fun z => nomatch z
        · exact ok6 g65 hp5 b e
      have fine : ∀ v' d' G6, Go [p] G5 G6 → Pot G6 p (n + 179 + 121 * i + 1 + 40 * (2 + 1)) → Rq c.K [D, p, P] G6 d' v' → Sm (10 ^ 18) (2 * 40 + 100) (2 + 20) d' → txB 50 d' = true → Fin v' G6 := fun v' d' G6 g6 hp6' r6 sm tx => fin v' G6 (g45.trans g6) (hp6'.up (by omega)) ⟨d', r6, sm.up (by decide) (by decide), tx⟩
      rcases (by
        have := (List.getElem?_eq_some_iff.mp hv).1
        simp at this
        omega : r = 0 ∨ r = 1) with e | e
      · subst e
        cases hv
        exact ⟨p, _, n + 179 + 121 * i + 1, [D, p, P], .tuple (ws.map namesD), 40, rfl, hp5, by omega, by simp, mD, rq_tupX (g65.sqT w1) (rw6 g65), sw.2, sw.1.1.sm.ok, sw.1.1.tx, sw.1.1.sm.wt, by decide, fun v' d' G6 g6 hp6' r6 sm tx => fine v' d' G6 g6 hp6' r6 (sm.up (Nat.le_refl _) (by have := sw.1.1.sm.dp; omega)) tx⟩
      · subst e
        cases hv
        exact ⟨p, _, n + 179 + 121 * i + 1, [D, p, P], .tuple ((List.replicate m.clock.length m.pages).map namesD), 40, rfl, hp5, by omega, by simp, mD, rq_tupX (g65.sqT hW2) (rW6 g65), sW.2, sW.1.1.sm.ok, sW.1.1.tx, sW.1.1.sm.wt, by decide, fun v' d' G6 g6 hp6' r6 sm tx => fine v' d' G6 g6 hp6' r6 (sm.up (Nat.le_refl _) (by have := sW.1.1.sm.dp; omega)) tx⟩
    intro H14 ys g14 hp14 hD14 ly ry
    have nL3p : L3 ≠ p := fun z => nL3 (by simp [z])
    have nLRp : LR ≠ p := fun z => nLR (by simp [z])
    have hL314 := g14.old L3 _ (by simpa using nL3p) hL3
    have hLR14 := g14.old LR _ (by simpa using nLRp) hLR13
    refine .inl (.inr (.inl ⟨L3, D, _, _, rfl, rfl, hL314, hD14, by rw [l13, ly]; show 11 + 12 ≤ sizeLine; decide, fun L4 fL4 => ?_⟩))
    have g15 : Go [] H14 (upd H14 L4 (.lst (vs3 ++ ys))) := Go.new fL4
    have hL4 : (upd H14 L4 (.lst (vs3 ++ ys))) L4 = some (.lst (vs3 ++ ys)) := upd_same
    have g614 := g613.trans g14
    have nL4 : L4 ∉ [p, P] := fun z => ok6 g614 hp14 L4 z fL4
    have f15 : ∀ y ∈ vs3 ++ ys, FitV c.K [p, P] (upd H14 L4 (.lst (vs3 ++ ys))) y := fun y hy => by
      rcases List.mem_append.mp hy with h | h
      · exact ((f13 y h).go (wP g14)).go g15.wide
      · obtain ⟨i, hi⟩ := List.mem_iff_getElem?.mp h
        obtain ⟨d', r', s'⟩ := ry i y hi
        exact FitV.go ⟨d', Rq.sub (by simp) d' y r', s'⟩ g15.wide
    have fr15 : ∀ y ∈ rs, FitV c.K [p, P] (upd H14 L4 (.lst (vs3 ++ ys))) y := fun y hy => ((fr13 y hy).go (wP g14)).go g15.wide
    have l15 : (vs3 ++ ys).length = 23 := by rw [List.length_append, l13, ly]
    have hLR15 := g15.old LR _ (by simp) hLR14
    have g615 := g614.trans g15.wide
    have hp15 := hp14.go g15
    dsimp only [gName, tSeq, tAsg]
    generalize (upd H14 L4 (.lst (vs3 ++ ys))) = H15 at g615 hp15 hL4 f15 fr15 hLR15 ⊢
    generalize vs3 ++ ys = vs5 at hL4 f15 l15 ⊢
    have T15 := tabp T6 hp6 g615
    have hM15 := hM6.goP g615 hp6
    have hL15 := hL6.go g615 (by simpa using ndp)
    have noD : ∀ b ∈ [p, P], ∀ kvs, H15 b ≠ some (.dK kvs) := fun b hb kvs e => by
      simp only [List.mem_cons, List.not_mem_nil, or_false] at hb
      rcases hb with z | z <;> rw [z] at e
      · obtain ⟨_, _, _, e1, _⟩ := id hp15
        rw [e1] at e
        cases e
      · rw [(tab_at T15).choose_spec] at e
        cases e
    have ndP : d ≠ P := fun e => by
      have hL8' := hL15
      obtain ⟨_, _, _, _, e1, _⟩ := hL8'.ex
      exact noD P (by simp) _ (e ▸ e1)
    refine .inl (.inl ⟨_, rfl, L4, rfl, ⟨_, SqL.of hL4⟩, ?_⟩)
    refine for_it (walk_list (xs := vs5)) (fun i σ H' => Go [p, P] H15 H' ∧ Pot H' p (n + 1631 + 2 * i) ∧ TabS H' P qAsked ∧ ∃ (z5 z8 z9 z10 : Option V), σ = [some (.ref p), some (.ref d), some (.ref W2), some (.ref LR), some (.ref L4), z5, some (.ref o), some (.ref w), z8, z9, z10]) ⟨Go.refl _ _, hp15.up (by omega), T15, _, _, _, _, rfl⟩ (fun i σ H' _ h => SqL.of (h.1.old L4 _ nL4 hL4)) ?_ ?_
    · rintro i y σ H16 H17 hi ⟨g16, hp16, T16, z5, z8, z9, z10, rfl⟩ ⟨rfl, hy⟩
      rw [l15] at hi
      have fy := (f15 y (List.mem_of_getElem? hy)).go g16
      have ww : FitV c.K [p, P] H17 (.ref w) := FitV.go ⟨_, fw g615, sw.1.1.fit (by decide) (by decide)⟩ g16
      have wW : FitV c.K [p, P] H17 (.ref W2) := FitV.go ⟨_, fW g615, sW.1.1.fit (by decide) (by decide)⟩ g16
      dsimp only [gName, tSeq, tAsg]
      refine ⟨_, rfl, _, rfl, _, rfl, _, rfl, r_nil ⟨by show 2 ≤ sizeLine; decide, fun L fL ap => ?_⟩⟩
      have g18 : Go [] H17 (upd H17 L (.lst [.ref w, .ref W2])) := Go.new fL
      have hL18 : (upd H17 L (.lst [.ref w, .ref W2])) L = some (.lst [.ref w, .ref W2]) := upd_same
      generalize (upd H17 L (.lst [.ref w, .ref W2])) = H18 at g18 hL18 ⊢
      have hL418 := g18.old L4 _ (by simp) (g16.old L4 _ nL4 hL4)
      refine .inl (.inr (.inl ⟨L4, L, _, _, rfl, rfl, hL418, hL18, by rw [l15]; show 23 + 2 ≤ sizeLine; decide, fun L5 fL5 => ?_⟩))
      have g19 : Go [] H18 (upd H18 L5 (.lst (vs5 ++ [.ref w, .ref W2]))) := Go.new fL5
      have hL519 : (upd H18 L5 (.lst (vs5 ++ [.ref w, .ref W2]))) L5 = some (.lst (vs5 ++ [.ref w, .ref W2])) := upd_same
      have g1719 := g18.trans g19
      generalize (upd H18 L5 (.lst (vs5 ++ [.ref w, .ref W2]))) = H19 at g1719 hL519 ⊢
      have hp19 := hp16.go g1719
      have n5p : L5 ≠ p := fun z => by
        obtain ⟨_, _, _, e, _⟩ := id (hp16.go g18)
        rw [← z, fL5] at e
        cases e
      refine r_nil ⟨p, L5, n + 1631 + 2 * i, _, rfl, hp19, by omega, by simp, by rw [List.length_append, l15]; show 23 + 2 < 2 ^ 29; decide, .inl ⟨n5p, hL519⟩, fun r v H20 hv g20 hp20 => ?_⟩
      have g1720 : Go [p] H17 H20 := g1719.wide.trans g20
      have fv : FitV c.K [p, P] H20 v := by
        refine FitV.go ?_ (wP g1720)
        rcases List.mem_append.mp (List.mem_of_getElem? hv) with h | h
        · exact (f15 v h).go g16
        · simp only [List.mem_cons, List.not_mem_nil, or_false] at h
          rcases h with h | h <;> rw [h]
          · exact ww
          · exact wW
      have T20 := tabp T16 hp16 g1720
      dsimp only [gName, tSeq, tAsg]
      have hLR20 := g1720.old LR _ (by simpa using nLRp) (g16.old LR _ nLR hLR15)
      refine ⟨_, rfl, _, rfl, _, rfl, _, rfl, _, rfl, _, rfl, r_nil ⟨p, LR, n + 1631 + 2 * i + 1, rs, rfl, hp20, by omega, fun z => (by rw [z] at lr; cases lr), by rw [lr]; decide, .inl ⟨nLRp, hLR20⟩, fun r2 v2 H21 hv2 g21 hp21 => ?_⟩⟩
      have g1721 := g1720.trans g21
      have g1521 := g16.trans (wP g1721)
      obtain ⟨d1, r1, s1⟩ := fy.go (wP g1721)
      obtain ⟨d2, r2', s2⟩ := fv.go (wP g21)
      obtain ⟨d3, r3, s3⟩ := (fr15 v2 (List.mem_of_getElem? hv2)).go g1521
      have T21 := tabp T20 hp20 g21
      refine r_nil ⟨[p, P], d, o, y, v, v2, m, cs, d1, d2, d3, rfl, hL15.go g1521 (by simp [ndp, ndP]), hD, hM15.goM g1521 noD, hB, T21, by simp, hPM hp21 T21, r1, r2', r3, s1, s2, s3, fun H22 g22 T22 => ⟨_, rfl, (if_neg (by simp)).mpr ?_⟩⟩
      exact ⟨g1521.trans (g22.mono (by simp)), (pot_go hp21 g22 (by simpa using nPp.symm)).up (by omega), T22, _, _, _, _, rfl⟩
    · rintro σ H16 ⟨g16, hp16, T16, z5, z8, z9, z10, rfl⟩
      rw [l15] at hp16
      refine q H16 (((g04.trans g46.wide).trans g615).mono (by simp) |>.trans g16) (hp16.up (by omega)) T16
end
end Sd

/-! V09o: the law -/
namespace Sd
open PySem PySem.Spec PyProof.Rows L2 RZ RT LamX
def spLaw (c : Wd) (P : Addr) : Sp := fun vs H Q _ => ∃ (a : Addr) (ns : List Int), vs = [.ref a] ∧ SqL c.K H a (ns.map V.int) ∧ ns.length ≤ 63 ∧ (∀ z ∈ ns, Builtin.Int.intBits z ≤ 1048576) ∧ TabS H P qAsked ∧ ∀ H', Q (.bl true) H'
theorem sqL_go {K : PySem.W.Frag} {H H' : Hp} {a : Addr} {xs : List V} {M : List Addr} (h : SqL K H a xs) (g : Go M H H') (hM : ∀ b ∈ M, ∃ ps, H b = some (.tbl ps)) : SqL K H' a xs := by
  rcases h with (h | ⟨o, h⟩) | h
  · refine .inl (.inl (g.old a _ (fun z => ?_) h))
    obtain ⟨ps, e⟩ := hM a z
    rw [h] at e
    cases e
  · exact .inl (.inr ⟨o, g.fix a _ rfl h⟩)
  · exact .inr h
theorem FnG.ofF {c : Wd} {x qual : Str} {st : Stmt} {N ps : List Str} {k : Nat} {sp : Sp} {f : Addr} {fd : FuncData} (F : Fun c.K x qual st f fd) (S : FnScope N ps (defScope st)) (len : ∀ vs H Q E, sp vs H Q E → vs.length = ps.length)
    (h : ∀ (f : Addr) (cdv : Value) (A : Around) (out : List Env) (s : Shared) (H : Hp) (vs : List V) (Q : VK) (E : XK), A.guards = some [] → Room k (A.deeper (envOfC qual (defScope st) s.heap.objs.size f cdv)) → sp vs H Q E →
      ∃ t, PSs (cxN c N qual st f cdv A out s H E).nox (defBody st) t ∧ t { nx := fun _ H' => Q .non H', rt := Q } (start N vs) H) : FnG c.P c.w c.K c.mg c.base (L2.CX c.P c.w) (k + 1) f fd ps sp :=
  Fun.okG F S len fun cdv A out s H vs Q E hG hr q => by
    obtain ⟨t, a, b⟩ := h f cdv A out s H vs Q E hG hr q
    exact ⟨t, a.nox, b⟩
section
variable {J : It} {n : Nat} {G : Hp → Prop} {Y : Nat → Hp → V → Hp → Prop}
theorem lc_mapT (w : Walk J n G Y) {g : TG} {te : TE} {vs : List Nat} {σ : L2.St} {H1 : Hp} {D : Addr} {Qd : Hp → Prop} (M : List Addr) (Z : Nat → Hp → Prop) (R : Nat → V → Hp → Prop)
    (hy : Yk Y) (hn : n ≤ 100000) (hD : H1 D = none) (hM : ∀ a ∈ M, H1 a ≠ none) (gG : ∀ H, Go M H1 H → G H) (z0 : Z 0 H1) (zm : ∀ i H o, Z i H → (∀ q, H D ≠ some (CodeO D q)) → Z i (upd H D o))
    (rm : ∀ i y N H H', Go N H H' → R i y H → R i y H')
    (turn : ∀ i x H H' (Fin : V → Hp → Prop), i < n → Go M H1 H → Go [] H H' → Z i H → Y i H x H' →
      (∀ y H4, Go M H H4 → Z (i + 1) H4 → R i y H4 → Fin y H4) → g x (wipe σ vs) H' fun σ2 H2 => wipe σ2 vs = wipe σ vs ∧ te σ2 H2 Fin)
    (done : ∀ H ys, Go M H1 H → Z n H → H D = some (.lst ys) → ys.length = n → (∀ (i : Nat) (y : V), ys[i]? = some y → R i y H) → Qd H) :
    ∃ W : Nat → Nat → Hp → Prop, (∃ m, W 0 m (upd H1 D (.lst []))) ∧ ∀ i m H, W i m H →
      (J.stop i H ∧ Qd H) ∨ (J.go i H ∧ ∃ Nx : Hp → Prop, (∀ H', Nx H' → ∃ m', m' < m ∧ W (i + 1) m' H') ∧ ∀ x H', J.yld i H x H' → g x (wipe σ vs) H' fun σ2 H2 => wipe σ2 vs = wipe σ vs ∧ tYes σ2 H2 fun b H3 =>
        if b = true then te σ2 H3 fun y H4 => ∃ acc, H4 D = some (.lst acc) ∧ acc.length < sizeLine ∧ Nx (upd H4 D (.lst (acc ++ [y]))) else Nx H3) := by
  have hDM : D ∉ M := fun h => hM D h hD
  refine lc_it w (fun i H => ∃ ys, Go M H1 H ∧ Z i H ∧ H D = some (.lst ys) ∧ ys.length = i ∧ ∀ (k : Nat) (y : V), ys[k]? = some y → R k y H)
    ⟨[], (Go.refl M H1).mut hD, zm 0 H1 _ z0 (fun q => by rw [hD]; exact fun z => nomatch z), upd_same, rfl, fun k y e => by simp at e⟩ (fun i H _ ⟨_, g1, _⟩ => gG H g1) ?_ (fun H ⟨ys, g1, z, d, l, r⟩ => done H ys g1 z d l r)
  rintro i x H H' hi ⟨ys, g1, z, d, l, r⟩ y
  refine turn i x H H' _ hi g1 (hy i H x H' y) z y ?_
  intro v H4 g4 z4 r4
  have d4 : H4 D = some (.lst ys) := g4.old D _ hDM d
  have gD : Go [D] H4 (upd H4 D (.lst (ys ++ [v]))) := Go.put d4 rfl (List.Mem.head _)
  refine ⟨ys, d4, Nat.lt_of_lt_of_le (show ys.length < 100000 by omega) (by decide), ys ++ [v], (g1.trans g4).mut hD, zm _ H4 _ z4 (fun q => by rw [d4]; exact fun z => nomatch z), upd_same, by simp [l], ?_⟩
  intro k y' ek
  by_cases hk : k < ys.length
  · rw [List.getElem?_append_left hk] at ek
    exact rm _ _ _ _ _ gD (rm _ _ _ _ _ g4 (r k y' ek))
  · have hk2 : k = ys.length := by
      have := (List.getElem?_eq_some_iff.mp ek).1
      simp at this
      omega
    subst hk2
    rw [List.getElem?_append_right (Nat.le_refl _)] at ek
    simp at ek
    subst ek
    rw [l]
    exact rm _ _ _ _ _ gD r4
end
theorem tab_upd {H : Hp} {P D : Addr} {q : Str} {o : HO} (h : TabS H P q) (n : D ≠ P) (hD : ∀ q, H D ≠ some (CodeO D q)) : TabS (upd H D o) P q := by
  obtain ⟨r, a1, a2, a3⟩ := h
  refine ⟨r, by rw [upd_ne n.symm]; exact a1, a2, fun pos cv e => ?_⟩
  obtain ⟨b, e1, e2⟩ := a3 pos cv e
  refine ⟨b, e1, ?_⟩
  by_cases z : b = D
  · subst z
    exact absurd e2 (hD q)
  · rw [upd_ne z]
    exact e2
section
variable {c : Wd} {fl P : Addr} {fdl : FuncData}
abbrev s_law : Stmt := topS 69
abbrev N_law : List Str := ["_law_script", "_law_k", "_law_pot", "_law_turn"]
abbrev P_law : List Str := ["_law_script"]
theorem sc_law : FnScope N_law P_law (defScope s_law) := ⟨rfl, rfl, rfl, by decide +kernel, rfl, by decide +kernel, by decide +kernel⟩
theorem ok_law (F : Fun c.K "law" "law" s_law fl fdl) (B : Bi c) (D__law_pot_of : Ok c "_law_pot_of" 1 P__law_pot_of (spPotOf c)) (D__law_right : OkG c "_law_right" 13 P__law_right (spRight c P)) : FnG c.P c.w c.K c.mg c.base (L2.CX c.P c.w) 14 fl fdl P_law (spLaw c P) := by
  refine FnG.ofF F sc_law (fun vs H Q E h => ?_) (fun f cdv A out s H vs Q E hG hr h => ?_)
  · obtain ⟨a, ns, rfl, _⟩ := h
    rfl
  · obtain ⟨a, ns, rfl, hS, hl, hb, hT, q⟩ := h
    have hu1 := hu_of hr
    have hu := hr.units
    refine ⟨_, (pss_cons (ps_for PassesOwn.never rfl (pi_range1 (by rfl) B.range (pa_cons (pe_callB (call_max2 rfl) (by rfl) B.max (by decide +kernel) (pa_cons pe_int (pa_cons (pe_callB (call_min2 rfl) (by rfl) B.min (by decide +kernel) (pa_cons pe_int (pa_cons (pe_callB (call_lenU (K := c.K)) (by rfl) B.len (by decide +kernel) (pa_cons (pv 0) pa_nil)) pa_nil))) pa_nil))) pa_nil)) (pg_name (i := 1) sc_law.nd rfl (by first | exact Or.inl rfl | exact Or.inr rfl)) (pss_cons (ps_set (i := 2) sc_law.nd rfl (by first | exact Or.inl rfl | exact Or.inr rfl) (pe_f D__law_pot_of (hr.mono (by omega)) (by rfl) (pa_cons (pv 0) (pa_cons (pv 1) pa_nil))))
    (pss_one (ps_if (pt_not (pt_val (pe_callB (call_allU (K := c.K) rfl) (by rfl) B.all (by decide +kernel) (pa_cons (pe_lc (own := [("_law_turn", 3)]) rfl sc_law.nd (pi_range1 (by rfl) B.range (pa_cons pe_int pa_nil)) (blkOk_by (N := N_law) (sc := defScope s_law) (by decide +kernel)) (fun _ _ _ _ _ => (pg_name (i := 3) sc_law.nd rfl (by first | exact Or.inl rfl | exact Or.inr rfl))) (fun _ _ _ _ _ => pts_nil) (fun _ _ _ _ _ => (pe_fG D__law_right hG (hr.mono (by omega)) (by rfl) (pa_cons (pv 2) pa_nil)))) pa_nil)))) (pss_one (ps_ret pe_bl)) pss_nil))))
    (pss_one (ps_ret pe_bl))), ?_⟩
    have hPl : ∀ b ∈ [P], ∃ ps, H b = some (.tbl ps) := fun b hb => by
      rw [List.mem_singleton.mp hb]
      exact tab_at hT
    refine ⟨_, rfl, r_nil (r_lenL hS (r_nil ⟨3, _, rfl, r_nil ⟨1, _, rfl, r_nil ⟨_, rfl, ?_⟩⟩⟩))⟩
    generalize hm : (if (if ((List.map V.int ns).length : Int) < 3 then ((List.map V.int ns).length : Int) else 3) > 1 then (if ((List.map V.int ns).length : Int) < 3 then ((List.map V.int ns).length : Int) else 3) else 1) = m
    have hm0 : 1 ≤ m ∧ m ≤ 3 := by
      rw [← hm]
      split <;> split <;> omega
    refine ⟨by omega, by omega, for_range (lo := 0) (n := m.toNat) (fun k σ H' => ∃ o1 o2 o3 : Option V, σ = [some (.ref a), o1, o2, o3] ∧ Go [P] H H' ∧ TabS H' P qAsked) ⟨_, _, _, rfl, Go.refl _ _, hT⟩ ?_ ?_⟩
    · rintro k σ H1 hk ⟨o1, o2, o3, rfl, g1, t1⟩
      refine ⟨_, rfl, _, rfl, a, ns, k, by simp, sqL_go hS g1 hPl, hl, hb, by omega, fun p H2 hp g2 hp2 => ?_⟩
      have t2 : TabS H2 P qAsked := tab_go t1 g2 (by simp) (by simp)
      have npP : p ≠ P := fun e => by
        rw [e, (tab_at t1).choose_spec] at hp
        cases hp
      refine ⟨2, rfl, by decide, by decide, fun D hD => ?_⟩
      have nD : D ≠ P := fun e => by
        rw [e, (tab_at t2).choose_spec] at hD
        cases hD
      have nDp : D ≠ p := fun e => by
        obtain ⟨_, _, _, e1, _⟩ := id hp2
        rw [← e, hD] at e1
        cases e1
      refine lc_mapT (walk_range (lo := 0) (n := 2)) [p, P] (fun i H' => Pot H' p (3000 * i) ∧ TabS H' P qAsked) (fun i y _ => y = .bl true) yk_fn (by decide) hD (fun b hb => ?_) (fun _ _ => trivial) ⟨hp2, t2⟩ (fun i H' o hz hn => ?_) (fun _ _ _ _ _ _ h => h) ?_ ?_
      · simp only [List.mem_cons, List.not_mem_nil, or_false] at hb
        rcases hb with e | e <;> rw [e]
        · obtain ⟨_, _, _, e, _⟩ := id hp2
          rw [e]
          exact fun z => nomatch z
        · rw [(tab_at t2).choose_spec]
          exact fun z => nomatch z
      · obtain ⟨⟨a1, a2, a3, e, r⟩, t⟩ := hz
        exact ⟨⟨a1, a2, a3, by rw [upd_ne nDp.symm]; exact e, r⟩, tab_upd t nD hn⟩
      · rintro i y H3 H4 Fin hi g3 g4 hz ⟨rfl, rfl⟩ fin
        refine ⟨rfl, _, rfl, p, 3000 * i, rfl, hz.1, by omega, hz.2, fun H5 g5 hp5 t5 => fin _ _ g5 ⟨?_, t5⟩ rfl⟩
        exact hp5
      · intro H3 ys g3 hz3 hD3 hl3 hr3
        have ey : ys = ((List.range 2).map fun _ => true).map V.bl := by
          rw [List.map_map]
          exact list_of_fn hl3 hr3
        subst ey
        refine r_nil (r_all (SqL.of hD3) ⟨_, rfl, (if_neg (by decide)).mpr ?_⟩)
        refine ⟨_, _, _, rfl, g1.trans ⟨fun b o hb e => ?_, fun b o hf e => g3.fix b o hf (g2.fix b o hf e)⟩, hz3.2⟩
        refine g3.old b o (fun z => ?_) (g2.old b o (fun z => nomatch z) e)
        simp only [List.mem_cons, List.not_mem_nil, or_false] at z
        rcases z with z | z
        · rw [z, hp] at e
          cases e
        · exact hb (by simp [z])
    · rintro σ H1 ⟨o1, o2, o3, rfl, g1, t1⟩
      exact q H1
end
end Sd

/-! V09p: the errors, as the text leaves them -/
namespace Sd
open PySem PySem.Spec PyProof.Rows L2 RZ RT LamX
/-- the init of the errors -/
structure FactI (K : PySem.W.Frag) (st : Stmt) (fI : Addr) (fd : FuncData) : Prop where
  fn : Fun K "__init__" "SeldomError.__init__" st fI fd
  ty : PySem.W.typeIn K (.ref fI) = some (.type "function")
  b1 : ∀ us : List Value, us.length = 2 → bindArgs fd ⟨us, []⟩ = pure ((["self", "value"] : List Str).zip us)
def allB (K : PySem.W.Frag) (names : List Str) (fI : Addr) : Bool := names.all fun x => nmB K x && (clB K fI (clAt K x) && obB K (clAt K x))
def matB (K : PySem.W.Frag) (names : List Str) : Bool := names.zipIdx.all fun p => names.zipIdx.all fun q => decide (PySem.W.kitOne K (.ref (clAt K p.1)) (.ref (clAt K q.1)) = some (decide (q.2 = p.2)))
def topB (K : PySem.W.Frag) (names : List Str) : Bool := names.all fun x => decide (PySem.W.kitOne K (.ref (clAt K x)) (.type "ValueError") = some true) && decide (PySem.W.exmOne K (.ref (clAt K x)) (.ref (clAt K "SeldomError")) = some true)
structure ErTxt (K : PySem.W.Frag) (names : List Str) (st : Stmt) (fI : Addr) : Prop where
  ini : ∃ fd, FactI K st fI fd
  all : allB K names fI = true
  mat : matB K names = true
  top : topB K names = true
  sel : nmB K "SeldomError" = true
  gt : PySem.W.specialIn K (.builtin "object.__class__") "__get__" = some (some (.builtin "getset_descriptor.__get__"))
  tk : PySem.W.takesIn K (.builtin "object.__class__") = some true
section
variable {c : Wd} {fI : Addr} {fd : FuncData}
abbrev s_SeldomError___init__ : Stmt := inClass (topS 2) 0
abbrev N_SeldomError___init__ : List Str := ["self", "value"]
abbrev P_SeldomError___init__ : List Str := ["self", "value"]
theorem sc_SeldomError___init__ : FnScope N_SeldomError___init__ P_SeldomError___init__ (defScope s_SeldomError___init__) := ⟨rfl, rfl, rfl, by decide +kernel, rfl, by decide +kernel, by decide +kernel⟩
theorem ok_init (F : Fun c.K "__init__" "SeldomError.__init__" s_SeldomError___init__ fI fd) : FnOk c.P c.w c.K c.mg c.base (L2.CX c.P c.w) 1 fI fd ["self", "value"] (spInit c.K) := by
  refine F.okX sc_SeldomError___init__ (fun vs H Q E h => ?_) (fun cdv A out s H vs Q E hr h => ?_)
  · obtain ⟨a, C, v, rfl, _⟩ := h
    rfl
  · obtain ⟨a, C, v, rfl, T, hno, ha, q⟩ := h
    refine ⟨_, pss_one (ps_ost (pv 0) (pv 1)), ?_⟩
    exact ⟨_, rfl, _, rfl, a, C, rfl, T, hno, .inl ⟨ha, fun dx hd hne => q dx hd hne⟩⟩
theorem er3x_of {h : Heap} (X : c.K.In h) (G : h.Ns mainGlobals c.mg) (T : ErTxt c.K threeE s_SeldomError___init__ fI) (noV : c.mg "ValueError" = none) : Er3x c (fun k => clAt c.K (threeE.getD k Str.empty)) (clAt c.K "SeldomError") := by
  obtain ⟨fdI, FI⟩ := T.ini
  have J : Ini c fI fdI := ⟨ok_init FI.fn, FI.ty, fun s a us h => .of_eq (FI.b1 _ (by simpa using h))⟩
  have mem : ∀ {k : Nat} {x : Str}, threeE[k]? = some x → x ∈ threeE := fun e => List.mem_of_getElem? e
  have at_ : ∀ {k : Nat} {x : Str}, threeE[k]? = some x → threeE.getD k Str.empty = x := fun e => by
    rw [List.getD_eq_getElem?_getD, e]
    rfl
  have name : ∀ k, k < 3 → ∃ x, threeE[k]? = some x := fun k hk => ⟨_, List.getElem?_eq_getElem (by show k < 3; exact hk)⟩
  refine ⟨fun k x e => ?_, fun j k hj hk => ?_, fun k hk => ?_, fun k hk => ?_, ?_, noV⟩
  · have h := List.all_eq_true.mp T.all x (mem e)
    simp only [Bool.and_eq_true] at h
    have ex := at_ e
    rw [ex]
    exact ⟨PySem.W.mg_of X G (of_decide_eq_true h.1), fI, fdI, clB_ok h.2.1 h.2.2 T.gt T.tk, J⟩
  · obtain ⟨x, ex⟩ := name j hj
    obtain ⟨y, ey⟩ := name k hk
    rw [at_ ex, at_ ey]
    have m1 : (y, k) ∈ threeE.zipIdx := List.mem_zipIdx_iff_getElem?.mpr ey
    have m2 : (x, j) ∈ threeE.zipIdx := List.mem_zipIdx_iff_getElem?.mpr ex
    have h := List.all_eq_true.mp (List.all_eq_true.mp T.mat _ m1) _ m2
    exact of_decide_eq_true h
  · obtain ⟨y, ey⟩ := name k hk
    rw [at_ ey]
    have h := List.all_eq_true.mp T.top y (mem ey)
    simp only [Bool.and_eq_true, decide_eq_true_eq] at h
    exact h.1
  · obtain ⟨y, ey⟩ := name k hk
    rw [at_ ey]
    have h := List.all_eq_true.mp T.top y (mem ey)
    simp only [Bool.and_eq_true, decide_eq_true_eq] at h
    exact h.2
  · exact PySem.W.mg_of X G (of_decide_eq_true T.sel)
end
theorem er_mk {K : PySem.W.Frag} {names : List Str} {CS fI : Addr} {oc kV dc pm cd ct : Value} {od an : Option Addr} {sl : Array (Option Value)}
    (a0 : PySem.W.nsIn K mainGlobals "SeldomError" = some (some (.ref CS))) (i0 : PySem.W.findIn K (.ref CS) "__init__" = some (some (.ref fI)))
    (l0 : K.lookup fI = some ⟨oc, od, .func (PySem.W.fnOf "__init__" "SeldomError.__init__" (defArgs s_SeldomError___init__) (defBody s_SeldomError___init__) (defScope s_SeldomError___init__) .none kV dc pm an cd ct), sl⟩) (c0 : PySem.W.codeIn K cd "SeldomError.__init__" = true) (k0 : PySem.W.keepIn K (.ref fI) = true) (t0 : PySem.W.typeIn K (.ref fI) = some (.type "function"))
    (gt : PySem.W.specialIn K (.builtin "object.__class__") "__get__" = some (some (.builtin "getset_descriptor.__get__"))) (tk : PySem.W.takesIn K (.builtin "object.__class__") = some true)
    (zS : nmB K "SeldomError" = true) (zA : allB K names fI = true) (zT : topB K names = true) (zM : matB K names = true) : ∃ fI, ErTxt K names s_SeldomError___init__ fI :=
  ⟨fI, ⟨_, fun_mk l0 c0 k0, t0, fun us h => (match us, h with | [_, _], _ => rfl)⟩, zA, zM, zT, zS, gt, tk⟩
end Sd

/-! S75j: the law's end, where nothing is shown around its call and tables of code objects stand -/
namespace Sd
open PySem PySem.Spec PyProof.Rows L2 LamX

/-- the script, locked -/
abbrev scrO (vs : List Value) : Obj := { cls := .type "list", data := .seq vs.toArray }
/-- what is tracked as the law begins: the tables, and the script where it is not written -/
def lawH (K : PySem.W.Frag) (ts : List Addr) (a : Addr) (vs : List Value) (ns : List Int) : Hp := fun b =>
  if b ∈ ts then some (.tbl #[]) else if b = a ∧ K.lookup a = none then some (.frz (scrO vs) (.lst (ns.map V.int))) else none
section
variable {K : PySem.W.Frag} {ts : List Addr} {a : Addr} {vs : List Value} {ns : List Int}
theorem lawH_some {b : Addr} {u : HO} (e : lawH K ts a vs ns b = some u) : (b ∈ ts ∧ u = .tbl #[]) ∨ (b ∉ ts ∧ b = a ∧ K.lookup a = none ∧ u = .frz (scrO vs) (.lst (ns.map V.int))) := by
  unfold lawH at e
  split at e
  · rename_i h
    exact .inl ⟨h, (Option.some.inj e).symm⟩
  · rename_i h
    split at e
    · rename_i h2
      exact .inr ⟨h, h2.1, h2.2, (Option.some.inj e).symm⟩
    · cases e
theorem lawH_tab {b : Addr} (h : b ∈ ts) : lawH K ts a vs ns b = some (.tbl #[]) := if_pos h
theorem lawH_none {b : Addr} (h1 : b ∉ ts) (h2 : b ≠ a) : lawH K ts a vs ns b = none := by
  unfold lawH
  rw [if_neg h1, if_neg fun z => h2 z.1]
end
theorem law_callGT {P : Program} {w : World} {K : PySem.W.Frag} {mg mb : Str → Option Value} {cx : CXT} {k : Nat} {fa a : Addr} {cs : List (Addr × Addr)} {fd : FuncData} {x : Str} {sp : Sp} {s : Shared} {vs : List Value} {ns : List Int}
    (KX : K.In s.heap) (hns : s.heap.Ns mainGlobals mg) (hmb : s.heap.Ns builtinsNs mb) (hboot : ∀ y : Str, y ≠ "__name__" → mb y = bootBuiltins y) (hlim : s.heap.NoLimit) (hgen : s.gens = #[])
    (hT : ∀ p ∈ cs, s.heap.get? p.2 = some (PySem.W.tabObj #[])) (nT : ∀ p ∈ cs, K.lookup p.2 = none) (hC : ∀ p ∈ cs, PySem.W.CodeHd s.heap p.1 p.2)
    (hbm : ∃ (bm : Addr) (ob : Obj), mg "__builtins__" = some (.ref bm) ∧ bm ≠ builtinsNs ∧ s.heap.get? bm = some ob ∧ ob.cls = .type "module" ∧ ob.dict = some builtinsNs ∧ ob.data = .plain)
    (ha : s.heap.get? a = some (scrO vs)) (hi : IntsAre vs ns) (hl : ns.length ≤ sizeLine) (hr : Room k callerA)
    (F : ∀ base : Heap, K.In base → base.Ns mainGlobals mg → (∀ p ∈ cs, TabB base mg p.1 p.2) → FnG P w K mg base cx k fa fd [x] sp) (hbind : ∀ (s : Shared) (u : Value), BindsTo s fd ⟨[u], []⟩ [(x, u)])
    (hsp : ∀ H : Hp, (∀ p ∈ cs, H p.2 = some (.tbl #[])) → SqL K H a (ns.map V.int) → sp [.ref a] H (fun v _ => v = .bl true) fun _ _ _ => False)
    (hcx : ∀ H e s', cx [] H s (fun _ _ _ => False) e s' → False) :
    codeAny (model P w) callerA (.call (.ref fa) ⟨[.ref a], []⟩) (fun r s' => r = .ok (.ret (.bool true)) ∧ OldK s.heap s'.heap ∧ s'.os = s.os ∧ AllBare s'.gens) s := by
  have rv := vals_ints hi
  -- the tables
  have tabAt : ∀ b ∈ cs.map (·.2), s.heap.get? b = some (PySem.W.tabObj #[]) ∧ K.lookup b = none := by
    intro b hb
    obtain ⟨p, hp, rfl⟩ := List.mem_map.mp hb
    exact ⟨hT p hp, nT p hp⟩
  have aNot : a ∉ cs.map (·.2) := by
    intro z
    have e := (tabAt a z).1
    rw [ha] at e
    cases e
  generalize hH : lawH K (cs.map (·.2)) a vs ns = H
  have some_ : ∀ {b : Addr} {u : HO}, H b = some u → (b ∈ cs.map (·.2) ∧ u = .tbl #[]) ∨ (b ∉ cs.map (·.2) ∧ b = a ∧ K.lookup a = none ∧ u = .frz (scrO vs) (.lst (ns.map V.int))) := by
    subst hH
    exact lawH_some
  have tabs : ∀ p ∈ cs, H p.2 = some (.tbl #[]) := by
    subst hH
    exact fun p hp => lawH_tab (List.mem_map.mpr ⟨p, hp, rfl⟩)
  have hok : HOk P w H s.heap := by
    intro b u e
    rcases some_ e with ⟨h1, rfl⟩ | ⟨_, rfl, _, rfl⟩
    · exact (tabAt b h1).1
    · exact ⟨ha, by rw [List.length_map]; exact hl, vs, _, rv, ha⟩
  have seq : SqL K H a (ns.map V.int) := by
    cases hk : K.lookup a with
    | none =>
      refine .inl (.inr ⟨scrO vs, ?_⟩)
      subst hH
      unfold lawH
      rw [if_neg aNot, if_pos ⟨rfl, hk⟩]
    | some o =>
      have e := KX a o hk
      rw [ha] at e
      cases e
      exact .inr ⟨_, vs.toArray, _, hk, rfl, rfl, rfl, by rw [List.size_toArray, hi.length]; exact hl, by simpa using rv⟩
  -- what is not tracked is seen in the base
  have notTracked : ∀ {b : Addr} {o : Obj}, s.heap.get? b = some o → o ≠ PySem.W.tabObj #[] → (b = a → K.lookup a ≠ none) → H b = none := by
    intro b o e n1 n2
    cases q : H b with
    | none => rfl
    | some u =>
      rcases some_ q with ⟨h1, _⟩ | ⟨_, h2, h3, _⟩
      · rw [(tabAt b h1).1] at e
        exact absurd (Option.some.inj e).symm n1
      · exact absurd h3 (n2 h2)
  have base : ∀ {b : Addr} {o : Obj}, s.heap.get? b = some o → o ≠ PySem.W.tabObj #[] → o ≠ scrO vs → (hidT s.heap H).get? b = some o := by
    intro b o e n1 n2
    refine hidT_get e (notTracked e n1 fun z => ?_)
    rw [z, ha] at e
    exact absurd (Option.some.inj e).symm n2
  have nsB : ∀ {b : Addr} {m : Str → Option Value}, s.heap.Ns b m → (hidT s.heap H).Ns b m := by
    rintro b m ⟨o, es, ep, e, d, r⟩
    refine ⟨o, es, ep, base e (fun z => ?_) (fun z => ?_), d, r⟩ <;> (rw [z] at d; cases d)
  have kB : K.In (hidT s.heap H) := by
    intro b o e
    refine hidT_get (KX b o e) ?_
    cases q : H b with
    | none => rfl
    | some u =>
      rcases some_ q with ⟨h1, _⟩ | ⟨_, h2, h3, _⟩
      · rw [(tabAt b h1).2] at e
        cases e
      · rw [h2, h3] at e
        cases e
  have M : L2.Mod K mg (hidT s.heap H) := by
    obtain ⟨mc, z1, z2⟩ := hlim
    exact ⟨kB, nsB hns, ⟨mb, nsB hmb, hboot⟩, ⟨mc, nsB z1, z2⟩⟩
  have gAt := hns
  obtain ⟨og, eg, pg, hg1, hg2, _⟩ := gAt
  have TB : ∀ p ∈ cs, TabB (hidT s.heap H) mg p.1 p.2 := by
    intro p hp
    refine ⟨?_, ?_, fun z => ?_⟩
    · obtain ⟨o, us, fl, tf, fg, tg, inF, tx, tt, z1, z2, z3, z⟩ := hC p hp
      refine ⟨o, us, fl, tf, fg, tg, inF, tx, tt, base z1 (fun y => ?_) (fun y => ?_), z2, z3, z⟩
      · rw [y] at z2
        cases z2
      · rw [y] at z3
        cases z3
    · obtain ⟨bm, ob, b1, b2, b3, b4, b5, b6⟩ := hbm
      refine ⟨bm, ob, b1, b2, fun y => ?_, fun y => ?_, base b3 (fun y => ?_) (fun y => ?_), b4, b5, b6⟩
      · rw [y, hg1] at b3
        cases b3
        rw [hg2] at b6
        cases b6
      · rw [y, hT p hp] at b3
        cases b3
        cases b6
      · rw [y] at b6
        cases b6
      · rw [y] at b6
        cases b6
    · rw [z, hT p hp] at hg1
      cases hg1
      cases hg2
  have e0 : Env0 P w K mg (hidT s.heap H) callerA [] s H := ⟨rfl, M, fun b o e => of_hidT e, Nat.le_of_eq (hidT_size _ _), True.intro, (fun b z => nomatch (show b ∈ ([] : List Addr) from z)), hok, .of_eq hgen⟩
  refine codeAny_mono ((F _ kB (nsB hns) TB).go callerA [] s H ⟨[.ref a], []⟩ [.ref a] [.ref a] _ _ rfl hr e0 (hbind s (.ref a)) (.cons rfl .nil) (hsp H tabs seq)) ?_
  intro r s' h
  match r, h with
  | .error e, h => exact (hcx H e s' h).elim
  | .ok .next, h => exact h.elim
  | .ok .brk, h => exact h.elim
  | .ok .cont, h => exact h.elim
  | .ok (.ret u), ⟨v, H', os, bare, un, hok', r', q⟩ =>
    obtain rfl : v = .bl true := q
    obtain rfl : u = Value.bool true := r'
    -- the tables have grown, all else is as it was
    have grown : ∀ b ∈ cs.map (·.2), ∃ more : Array Value, s'.heap.get? b = some (PySem.W.tabObj more) := by
      intro b hb
      obtain ⟨p, hp, rfl⟩ := List.mem_map.mp hb
      obtain ⟨more, z⟩ := un.tbls p.2 #[] (tabs p hp)
      exact ⟨_, hok' p.2 _ z⟩
    have kept : ∀ b o, b ∉ cs.map (·.2) → s.heap.get? b = some o → s'.heap.get? b = some o := by
      intro b o nb e
      cases q : H b with
      | none => exact un.keep b o e q (fun z => nomatch (show b ∈ ([] : List Addr) from z)) (fun z => nomatch z)
      | some u =>
        rcases some_ q with ⟨h1, _⟩ | ⟨_, h2, h3, rfl⟩
        · exact absurd h1 nb
        · obtain ⟨y, _⟩ := hok' b _ (un.frzs b _ _ q)
          rw [h2, ha] at e
          cases e
          exact y
    refine ⟨rfl, ⟨fun b o e => ?_, fun b o e => ?_⟩, os, bare⟩
    · by_cases hb : b ∈ cs.map (·.2)
      · obtain ⟨p, hp, hpb⟩ := List.mem_map.mp hb
        obtain ⟨more, hm⟩ := grown b hb
        rw [(tabAt b hb).1] at e
        cases e
        refine .inr (.inl ⟨?_, rfl, #[], more, rfl, by rw [Array.empty_append]; exact hm⟩)
        rw [← hpb]
        exact ((hC p hp).tab (hT p hp)).isCodeTable
      · exact .inl (kept b o hb e)
    · by_cases hb : b ∈ cs.map (·.2)
      · obtain ⟨more, hm⟩ := grown b hb
        exact ⟨_, hm⟩
      · exact ⟨o, kept b o hb e⟩
end Sd

namespace Sd
open PySem PySem.Spec PyProof.Rows L2 LamX
/-- a def of the text as it stands in what is written -/
structure Fact (K : PySem.W.Frag) (x qual : Str) (st : Stmt) (ps : List Str) (f : Addr) (fd : FuncData) : Prop where
  at_ : PySem.W.nsIn K mainGlobals x = some (some (.ref f))
  fn : Fun K x qual st f fd
  bi : ∀ us : List Value, us.length = ps.length → bindArgs fd ⟨us, []⟩ = pure (ps.zip us)
theorem Fact.at {c : Wd} {h : Heap} {x qual : Str} {st : Stmt} {ps : List Str} {f : Addr} {fd : FuncData} (F : Fact c.K x qual st ps f fd) (X : c.K.In h) (G : h.Ns mainGlobals c.mg) : At c x qual st ps := ⟨f, fd, PySem.W.mg_of X G F.at_, F.fn, Binds.all F.bi⟩
section
variable {K : PySem.W.Frag} {st : Stmt} {ps : List Str} {f C p : Addr} {oc kV dc pm cd ct : Value} {od an : Option Addr} {sl : Array (Option Value)} {x m qual : Str}
theorem fact_mk (a : PySem.W.nsIn K mainGlobals x = some (some (.ref f))) (l : K.lookup f = some ⟨oc, od, .func (PySem.W.fnOf x x (defArgs st) (defBody st) (defScope st) .none kV dc pm an cd ct), sl⟩) (c : PySem.W.codeIn K cd x = true) (k : PySem.W.keepIn K (.ref f) = true)
    (hb : ∀ us : List Value, us.length = ps.length → bindArgs (PySem.W.fnOf x x (defArgs st) (defBody st) (defScope st) .none kV dc pm an cd ct) ⟨us, []⟩ = pure (ps.zip us)) : ∃ f fd, Fact K x x st ps f fd :=
  ⟨f, _, a, fun_mk l c k, hb⟩
theorem meth_mk (a : PySem.W.findIn K (.ref C) m = some (some (.ref f))) (fn : PySem.W.isFn K (.ref f) = true) (l : K.lookup f = some ⟨oc, od, .func (PySem.W.fnOf m qual (defArgs st) (defBody st) (defScope st) .none kV dc pm an cd ct), sl⟩) (c : PySem.W.codeIn K cd qual = true) (k : PySem.W.keepIn K (.ref f) = true)
    (hb : ∀ us : List Value, us.length = ps.length → bindArgs (PySem.W.fnOf m qual (defArgs st) (defBody st) (defScope st) .none kV dc pm an cd ct) ⟨us, []⟩ = pure (ps.zip us)) : ∃ f fd, Meth K C m f ∧ Fun K m qual st f fd ∧ Binds K fd ps [] :=
  ⟨f, _, ⟨a, fn, k⟩, fun_mk l c k, Binds.all hb⟩
theorem prop_mk {rest : List Value} (a : PySem.W.findIn K (.ref C) m = some (some (.ref p))) (g : PySem.W.specialIn K (.ref p) "__get__" = some (some (.builtin "property.__get__"))) (t : PySem.W.takesIn K (.ref p) = some true) (r : PySem.W.recIn K p "property" = some (.ref f :: rest))
    (l : K.lookup f = some ⟨oc, od, .func (PySem.W.fnOf m qual (defArgs st) (defBody st) (defScope st) .none kV dc pm an cd ct), sl⟩) (c : PySem.W.codeIn K cd qual = true) (k : PySem.W.keepIn K (.ref f) = true)
    (hb : ∀ us : List Value, us.length = ps.length → bindArgs (PySem.W.fnOf m qual (defArgs st) (defBody st) (defScope st) .none kV dc pm an cd ct) ⟨us, []⟩ = pure (ps.zip us)) : ∃ p f fd, PropOf K C m p f ∧ Fun K m qual st f fd ∧ Binds K fd ps [] :=
  ⟨p, f, _, ⟨a, g, t, rest, r⟩, fun_mk l c k, Binds.all hb⟩
theorem ini_mk (mk : PySem.W.makesIn K C = true) (a : PySem.W.findIn K (.ref C) "__init__" = some (some (.ref f))) (fn : PySem.W.isFn K (.ref f) = true) (kC : PySem.W.keepIn K (.ref C) = true) (l : K.lookup f = some ⟨oc, od, .func (PySem.W.fnOf "__init__" qual (defArgs st) (defBody st) (defScope st) .none kV dc pm an cd ct), sl⟩) (c : PySem.W.codeIn K cd qual = true) (k : PySem.W.keepIn K (.ref f) = true)
    (hb : ∀ us : List Value, us.length = ps.length → bindArgs (PySem.W.fnOf "__init__" qual (defArgs st) (defBody st) (defScope st) .none kV dc pm an cd ct) ⟨us, []⟩ = pure (ps.zip us)) : ∃ f fd, Mk K C f ∧ Fun K "__init__" qual st f fd ∧ Binds K fd ps [] :=
  ⟨f, _, ⟨mk, a, fn, kC⟩, fun_mk l c k, Binds.all hb⟩
end
def bltNames : List Str := ["len", "isinstance", "all", "sum", "list", "tuple", "int", "bool", "str", "abs", "min", "max", "sorted", "repr", "set", "range", "zip", "enumerate", "reversed", "dict", "ValueError"]
def bltB (K : PySem.W.Frag) : Bool := bltNames.all fun x => decide (PySem.W.nsIn K mainGlobals x = some none)
def noaB (K : PySem.W.Frag) (C : Addr) : Bool := mNames.all fun f => decide (PySem.W.findIn K (.ref C) f = some none)
def clsB (K : PySem.W.Frag) (C : Addr) : Bool := PySem.W.plainGet K C Str.empty && (PySem.W.hasDictIn K C && (PySem.W.plainOver K C && decide (PySem.W.findIn K (.ref C) "__setattr__" = some (some (.builtin "object.__setattr__")))))
/-- all that is asked of what is written -/
structure FactC (K : PySem.W.Frag) (x : Str) (st : Stmt) (ps : List Str) (f cc P : Addr) (fd : FuncData) : Prop where
  at_ : PySem.W.nsIn K mainGlobals x = some (some (.ref f))
  fn : FunC K x x st f fd cc
  bi : Binds K fd ps []
  lk : ∃ oc od sl, K.lookup f = some ⟨oc, od, .func fd, sl⟩
  cd : fd.code = .ref cc
  co : ∃ e dd vs sl, K.lookup cc = some ⟨e, dd, .fields vs, sl⟩ ∧ vs[11]? = some (.ref P)
  no : K.lookup P = none
theorem FactC.at {c : Wd} {h : Heap} {x : Str} {st : Stmt} {ps : List Str} {f cc P : Addr} {fd : FuncData} (F : FactC c.K x st ps f cc P fd) (X : c.K.In h) (G : h.Ns mainGlobals c.mg) : AtC c x x st ps cc := ⟨f, fd, PySem.W.mg_of X G F.at_, F.fn, F.bi⟩
theorem factC_mk {K : PySem.W.Frag} {x : Str} {st : Stmt} {ps : List Str} {f cc P : Addr} {oc kV dc pm ct e : Value} {od an dd : Option Addr} {sl sl2 : Array (Option Value)} {vs : Array Value}
    (a : PySem.W.nsIn K mainGlobals x = some (some (.ref f))) (l : K.lookup f = some ⟨oc, od, .func (PySem.W.fnOf x x (defArgs st) (defBody st) (defScope st) .none kV dc pm an (.ref cc) ct), sl⟩) (c : PySem.W.codeIn K (.ref cc) x = true) (k : PySem.W.keepIn K (.ref f) = true)
    (lc : K.lookup cc = some ⟨e, dd, .fields vs, sl2⟩) (hP : vs[11]? = some (.ref P)) (nP : K.lookup P = none)
    (hb : ∀ us : List Value, us.length = ps.length → bindArgs (PySem.W.fnOf x x (defArgs st) (defBody st) (defScope st) .none kV dc pm an (.ref cc) ct) ⟨us, []⟩ = pure (ps.zip us)) : ∃ f cc P fd, FactC K x st ps f cc P fd :=
  ⟨f, cc, P, _, a, ⟨⟨oc, od, kV, dc, pm, an, ct, sl, rfl, l, c⟩, k⟩, Binds.all hb, ⟨_, _, _, l⟩, rfl, ⟨_, _, _, _, lc, hP⟩, nP⟩
structure Txt (K : PySem.W.Frag) (C fl cc P : Addr) (fdl : FuncData) : Prop where
  dtab : ∃ f fd, FactC K "_law_asked_right" s__law_asked_right P__law_asked_right f cc P fd
  cat : PySem.W.nsIn K mainGlobals "Machine" = some (some (.ref C))
  dlaw : Fact K "law" "law" s_law P_law fl fdl
  d_is_integer : ∃ f fd, Fact K "is_integer" "is_integer" s_is_integer P_is_integer f fd
  d_is_integer_in : ∃ f fd, Fact K "is_integer_in" "is_integer_in" s_is_integer_in P_is_integer_in f fd
  d_is_name : ∃ f fd, Fact K "is_name" "is_name" s_is_name P_is_name f fd
  d_is_ascending : ∃ f fd, Fact K "is_ascending" "is_ascending" s_is_ascending P_is_ascending f fd
  d_are_ascending_names : ∃ f fd, Fact K "are_ascending_names" "are_ascending_names" s_are_ascending_names P_are_ascending_names f fd
  d_are_pages_of : ∃ f fd, Fact K "are_pages_of" "are_pages_of" s_are_pages_of P_are_pages_of f fd
  d_place_of : ∃ f fd, Fact K "place_of" "place_of" s_place_of P_place_of f fd
  d_turns_of : ∃ f fd, Fact K "turns_of" "turns_of" s_turns_of P_turns_of f fd
  d_is_watch : ∃ f fd, Fact K "is_watch" "is_watch" s_is_watch P_is_watch f fd
  d_check_watch : ∃ f fd, Fact K "check_watch" "check_watch" s_check_watch P_check_watch f fd
  d_with_touches : ∃ f fd, Fact K "with_touches" "with_touches" s_with_touches P_with_touches f fd
  d_marks_of : ∃ f fd, Fact K "marks_of" "marks_of" s_marks_of P_marks_of f fd
  d_without_seen : ∃ f fd, Fact K "without_seen" "without_seen" s_without_seen P_without_seen f fd
  d_seen_and_unseen : ∃ f fd, Fact K "seen_and_unseen" "seen_and_unseen" s_seen_and_unseen P_seen_and_unseen f fd
  d_seen : ∃ f fd, Fact K "seen" "seen" s_seen P_seen f fd
  d_unseen : ∃ f fd, Fact K "unseen" "unseen" s_unseen P_unseen f fd
  d_coarser : ∃ f fd, Fact K "coarser" "coarser" s_coarser P_coarser f fd
  d_is_step : ∃ f fd, Fact K "is_step" "is_step" s_is_step P_is_step f fd
  d_are_steps : ∃ f fd, Fact K "are_steps" "are_steps" s_are_steps P_are_steps f fd
  d_is_clock : ∃ f fd, Fact K "is_clock" "is_clock" s_is_clock P_is_clock f fd
  d_are_pages : ∃ f fd, Fact K "are_pages" "are_pages" s_are_pages P_are_pages f fd
  d_is_set : ∃ f fd, Fact K "is_set" "is_set" s_is_set P_is_set f fd
  d__law_take : ∃ f fd, Fact K "_law_take" "_law_take" s__law_take P__law_take f fd
  d__law_pot_of : ∃ f fd, Fact K "_law_pot_of" "_law_pot_of" s__law_pot_of P__law_pot_of f fd
  d__law_of : ∃ f fd, Fact K "_law_of" "_law_of" s__law_of P__law_of f fd
  d__law_some_steps : ∃ f fd, Fact K "_law_some_steps" "_law_some_steps" s__law_some_steps P__law_some_steps f fd
  d__law_lore : ∃ f fd, Fact K "_law_lore" "_law_lore" s__law_lore P__law_lore f fd
  d__law_sets_of : ∃ f fd, Fact K "_law_sets_of" "_law_sets_of" s__law_sets_of P__law_sets_of f fd
  d__law_step : ∃ f fd, Fact K "_law_step" "_law_step" s__law_step P__law_step f fd
  d__law_later : ∃ f fd, Fact K "_law_later" "_law_later" s__law_later P__law_later f fd
  d__law_drawn_watch : ∃ f fd, Fact K "_law_drawn_watch" "_law_drawn_watch" s__law_drawn_watch P__law_drawn_watch f fd
  d__law_drawn_run : ∃ f fd, Fact K "_law_drawn_run" "_law_drawn_run" s__law_drawn_run P__law_drawn_run f fd
  d__law_made : ∃ f fd, Fact K "_law_made" "_law_made" s__law_made P__law_made f fd
  d__law_is_number : ∃ f fd, Fact K "_law_is_number" "_law_is_number" s__law_is_number P__law_is_number f fd
  d__law_odd : ∃ f fd, Fact K "_law_odd" "_law_odd" s__law_odd P__law_odd f fd
  d__law_bent : ∃ f fd, Fact K "_law_bent" "_law_bent" s__law_bent P__law_bent f fd
  d__law_is_run_of : ∃ f fd, Fact K "_law_is_run_of" "_law_is_run_of" s__law_is_run_of P__law_is_run_of f fd
  d__law_is_watch_of : ∃ f fd, Fact K "_law_is_watch_of" "_law_is_watch_of" s__law_is_watch_of P__law_is_watch_of f fd
  d__law_heard : ∃ f fd, Fact K "_law_heard" "_law_heard" s__law_heard P__law_heard f fd
  d__law_right : ∃ f fd, Fact K "_law_right" "_law_right" s__law_right P__law_right f fd
  ini : ∃ f fd, Mk K C f ∧ Fun K "__init__" "Machine.__init__" s_Machine___init__ f fd ∧ Binds K fd P_Machine___init__ []
  m__check_step : ∃ f fd, Meth K C "_check_step" f ∧ Fun K "_check_step" "Machine._check_step" s_Machine__check_step f fd ∧ Binds K fd P_Machine__check_step []
  m_page : ∃ f fd, Meth K C "page" f ∧ Fun K "page" "Machine.page" s_Machine_page f fd ∧ Binds K fd P_Machine_page []
  m_is_run : ∃ f fd, Meth K C "is_run" f ∧ Fun K "is_run" "Machine.is_run" s_Machine_is_run f fd ∧ Binds K fd P_Machine_is_run []
  p_clock : ∃ p f fd, PropOf K C "clock" p f ∧ Fun K "clock" "Machine.clock" s_Machine_clock f fd ∧ Binds K fd P_Machine_clock []
  p_pages : ∃ p f fd, PropOf K C "pages" p f ∧ Fun K "pages" "Machine.pages" s_Machine_pages f fd ∧ Binds K fd P_Machine_pages []
  comb : PySem.W.nsIn K mainGlobals "combinations" = some (some (.type "itertools.combinations"))
  cls : clsB K C = true
  noa : noaB K C = true
  blt : bltB K = true
  er : ∃ fI, ErTxt K threeE s_SeldomError___init__ fI
def numsZ : List (Str × Int) := [("LONGEST_NAME", 8), ("MOST_STEPS", 8), ("MOST_FOLLOWING", 3), ("MOST_TURNS", 3), ("MOST_TICKS", 3), ("LEAST_PAGES", 2), ("MOST_PAGES", 4), ("MOST_MOVE", 9)]
theorem bi_of {c : Wd} {h : Heap} (X : c.K.In h) (G : h.Ns mainGlobals c.mg) (hb : bltB c.K = true) : Bi c := by
  have k : ∀ x ∈ bltNames, c.mg x = none := fun x hx => PySem.W.mg_none_of X G (of_decide_eq_true (List.all_eq_true.mp hb x hx))
  constructor <;> exact k _ (by decide +kernel)
theorem law09 {P : Program} {w : World} {K : PySem.W.Frag} {mg : Str → Option Value} {base : Heap} {C fl cc P' : Addr} {fdl : FuncData} (T : Txt K C fl cc P' fdl) (kL : ∃ t, mg "LETTERS" = some (.str lettersZ t)) (kI : ∀ p ∈ numsZ, ∃ t, mg p.1 = some (.int p.2 t)) (X : K.In base) (G : base.Ns mainGlobals mg) (TB : TabB base mg cc P') :
    FnG P w K mg base (L2.CX P w) 14 fl fdl P_law (spLaw ⟨P, w, K, mg, base⟩ P') := by
  let c : Wd := ⟨P, w, K, mg, base⟩
  have X' : c.K.In base := X
  have G' : base.Ns mainGlobals c.mg := G
  obtain ⟨_, _, F_tab⟩ := T.dtab
  have A_tab := FactC.at (c := c) F_tab X' G'
  have B : Bi c := bi_of (c := c) X' G' T.blt
  have Bc' : Bc c := by
    constructor
    · exact kI ("LONGEST_NAME", 8) (by simp [numsZ])
    · exact kL
  have Bm' : Bm c := by
    constructor
    · exact kI ("MOST_STEPS", 8) (by simp [numsZ])
    · exact kI ("MOST_FOLLOWING", 3) (by simp [numsZ])
    · exact kI ("MOST_TURNS", 3) (by simp [numsZ])
    · exact kI ("MOST_TICKS", 3) (by simp [numsZ])
    · exact kI ("LEAST_PAGES", 2) (by simp [numsZ])
    · exact kI ("MOST_PAGES", 4) (by simp [numsZ])
    · exact kI ("MOST_MOVE", 9) (by simp [numsZ])
    · exact PySem.W.mg_of X' G' T.comb
  have cl : Cls c.K C := by
    have h := T.cls
    simp only [clsB, Bool.and_eq_true, decide_eq_true_eq] at h
    exact ⟨h.1, h.2.1, h.2.2.1, h.2.2.2⟩
  have nA : ∀ f : Str, f ∈ mNames → NoAttr c.K C f := fun f hf => show PySem.W.findIn K (.ref C) f = some none from of_decide_eq_true (List.all_eq_true.mp T.noa f hf)
  have CA : ClAt c "Machine" "Machine.__init__" C s_Machine___init__ P_Machine___init__ := by
    obtain ⟨f, fd, h1, h2, h3⟩ := T.ini
    exact ⟨⟨f, fd, h1, PySem.W.mg_of X' G' T.cat, h2, h3⟩, cl⟩
  obtain ⟨_, _, F_is_integer⟩ := T.d_is_integer
  obtain ⟨_, _, F_is_integer_in⟩ := T.d_is_integer_in
  obtain ⟨_, _, F_is_name⟩ := T.d_is_name
  obtain ⟨_, _, F_is_ascending⟩ := T.d_is_ascending
  obtain ⟨_, _, F_are_ascending_names⟩ := T.d_are_ascending_names
  obtain ⟨_, _, F_are_pages_of⟩ := T.d_are_pages_of
  obtain ⟨_, _, F_place_of⟩ := T.d_place_of
  obtain ⟨_, _, F_turns_of⟩ := T.d_turns_of
  obtain ⟨_, _, F_is_watch⟩ := T.d_is_watch
  obtain ⟨_, _, F_check_watch⟩ := T.d_check_watch
  obtain ⟨_, _, F_with_touches⟩ := T.d_with_touches
  obtain ⟨_, _, F_marks_of⟩ := T.d_marks_of
  obtain ⟨_, _, F_without_seen⟩ := T.d_without_seen
  obtain ⟨_, _, F_seen_and_unseen⟩ := T.d_seen_and_unseen
  obtain ⟨_, _, F_seen⟩ := T.d_seen
  obtain ⟨_, _, F_unseen⟩ := T.d_unseen
  obtain ⟨_, _, F_coarser⟩ := T.d_coarser
  obtain ⟨_, _, F_is_step⟩ := T.d_is_step
  obtain ⟨_, _, F_are_steps⟩ := T.d_are_steps
  obtain ⟨_, _, F_is_clock⟩ := T.d_is_clock
  obtain ⟨_, _, F_are_pages⟩ := T.d_are_pages
  obtain ⟨_, _, F_is_set⟩ := T.d_is_set
  obtain ⟨_, _, F__law_take⟩ := T.d__law_take
  obtain ⟨_, _, F__law_pot_of⟩ := T.d__law_pot_of
  obtain ⟨_, _, F__law_of⟩ := T.d__law_of
  obtain ⟨_, _, F__law_some_steps⟩ := T.d__law_some_steps
  obtain ⟨_, _, F__law_lore⟩ := T.d__law_lore
  obtain ⟨_, _, F__law_sets_of⟩ := T.d__law_sets_of
  obtain ⟨_, _, F__law_step⟩ := T.d__law_step
  obtain ⟨_, _, F__law_later⟩ := T.d__law_later
  obtain ⟨_, _, F__law_drawn_watch⟩ := T.d__law_drawn_watch
  obtain ⟨_, _, F__law_drawn_run⟩ := T.d__law_drawn_run
  obtain ⟨_, _, F__law_made⟩ := T.d__law_made
  obtain ⟨_, _, F__law_is_number⟩ := T.d__law_is_number
  obtain ⟨_, _, F__law_odd⟩ := T.d__law_odd
  obtain ⟨_, _, F__law_bent⟩ := T.d__law_bent
  obtain ⟨_, _, F__law_is_run_of⟩ := T.d__law_is_run_of
  obtain ⟨_, _, F__law_is_watch_of⟩ := T.d__law_is_watch_of
  obtain ⟨_, _, F__law_heard⟩ := T.d__law_heard
  obtain ⟨_, _, F__law_right⟩ := T.d__law_right
  have A_is_integer := Fact.at (c := c) F_is_integer X' G'
  have A_is_integer_in := Fact.at (c := c) F_is_integer_in X' G'
  have A_is_name := Fact.at (c := c) F_is_name X' G'
  have A_is_ascending := Fact.at (c := c) F_is_ascending X' G'
  have A_are_ascending_names := Fact.at (c := c) F_are_ascending_names X' G'
  have A_are_pages_of := Fact.at (c := c) F_are_pages_of X' G'
  have A_place_of := Fact.at (c := c) F_place_of X' G'
  have A_turns_of := Fact.at (c := c) F_turns_of X' G'
  have A_is_watch := Fact.at (c := c) F_is_watch X' G'
  have A_check_watch := Fact.at (c := c) F_check_watch X' G'
  have A_with_touches := Fact.at (c := c) F_with_touches X' G'
  have A_marks_of := Fact.at (c := c) F_marks_of X' G'
  have A_without_seen := Fact.at (c := c) F_without_seen X' G'
  have A_seen_and_unseen := Fact.at (c := c) F_seen_and_unseen X' G'
  have A_seen := Fact.at (c := c) F_seen X' G'
  have A_unseen := Fact.at (c := c) F_unseen X' G'
  have A_coarser := Fact.at (c := c) F_coarser X' G'
  have A_is_step := Fact.at (c := c) F_is_step X' G'
  have A_are_steps := Fact.at (c := c) F_are_steps X' G'
  have A_is_clock := Fact.at (c := c) F_is_clock X' G'
  have A_are_pages := Fact.at (c := c) F_are_pages X' G'
  have A_is_set := Fact.at (c := c) F_is_set X' G'
  have A__law_take := Fact.at (c := c) F__law_take X' G'
  have A__law_pot_of := Fact.at (c := c) F__law_pot_of X' G'
  have A__law_of := Fact.at (c := c) F__law_of X' G'
  have A__law_some_steps := Fact.at (c := c) F__law_some_steps X' G'
  have A__law_lore := Fact.at (c := c) F__law_lore X' G'
  have A__law_sets_of := Fact.at (c := c) F__law_sets_of X' G'
  have A__law_step := Fact.at (c := c) F__law_step X' G'
  have A__law_later := Fact.at (c := c) F__law_later X' G'
  have A__law_drawn_watch := Fact.at (c := c) F__law_drawn_watch X' G'
  have A__law_drawn_run := Fact.at (c := c) F__law_drawn_run X' G'
  have A__law_made := Fact.at (c := c) F__law_made X' G'
  have A__law_is_number := Fact.at (c := c) F__law_is_number X' G'
  have A__law_odd := Fact.at (c := c) F__law_odd X' G'
  have A__law_bent := Fact.at (c := c) F__law_bent X' G'
  have A__law_is_run_of := Fact.at (c := c) F__law_is_run_of X' G'
  have A__law_is_watch_of := Fact.at (c := c) F__law_is_watch_of X' G'
  have A__law_heard := Fact.at (c := c) F__law_heard X' G'
  have A__law_right := Fact.at (c := c) F__law_right X' G'
  have M__check_step : MtAt c C "_check_step" "Machine._check_step" s_Machine__check_step P_Machine__check_step := ⟨T.m__check_step, cl⟩
  have M_page : MtAt c C "page" "Machine.page" s_Machine_page P_Machine_page := ⟨T.m_page, cl⟩
  have M_is_run : MtAt c C "is_run" "Machine.is_run" s_Machine_is_run P_Machine_is_run := ⟨T.m_is_run, cl⟩
  have R_clock : PrAt c C "clock" "Machine.clock" s_Machine_clock P_Machine_clock := ⟨T.p_clock, cl⟩
  have R_pages : PrAt c C "pages" "Machine.pages" s_Machine_pages P_Machine_pages := ⟨T.p_pages, cl⟩
  have D_take := ok_take (c := c) A__law_take B
  have D_int := ok_is_integer (c := c) A_is_integer B
  have D_intin := ok_is_integer_in (c := c) A_is_integer_in B D_int
  have D_name := ok_is_name (c := c) A_is_name B Bc'
  have D_asc := ok_is_ascending (c := c) A_is_ascending B
  have D_names := ok_are_ascending_names (c := c) A_are_ascending_names B D_name D_asc
  have D_step := ok_is_step (c := c) A_is_step B Bm' D_name D_names
  have D_clk := ok_is_clock (c := c) A_is_clock B Bm' D_intin
  have D_set := ok_is_set (c := c) A_is_set B D_names
  have D_pgs := ok_are_pages (c := c) A_are_pages B Bm' D_names
  have D_stps := ok_are_steps (c := c) A_are_steps B Bm' D_step
  have D_mac := ok_Machine_init (c := c) (C := C) CA B Bm' D_stps D_clk D_pgs D_intin D_set nA
  have n_ : ∀ f : Str, f ∈ mNames → NoAttr c.K C f := nA
  have hb_ : ∀ x ∈ bltNames, c.mg x = none := fun x hx => PySem.W.mg_none_of X' G' (of_decide_eq_true (List.all_eq_true.mp T.blt x hx))
  obtain ⟨fI, TE⟩ := T.er
  have Ex := er3x_of (c := c) X' G' TE (hb_ "ValueError" (by decide +kernel))
  have D_chk := ok_Machine__check_step (c := c) (C := C) M__check_step B (n_ "_names" (by decide +kernel))
  have D_page := ok_Machine_page (c := c) (C := C) M_page B (n_ "_page_of" (by decide +kernel)) D_chk
  have D_run := ok_Machine_is_runQ (c := c) (C := C) M_is_run B nA
  have D_clock := ok_Machine_clock (c := c) (C := C) R_clock (n_ "_clock" (by decide +kernel))
  have D_pages := ok_Machine_pages (c := c) (C := C) R_pages (n_ "_pages" (by decide +kernel))
  have D_place := ok_place_of (c := c) (C := C) A_place_of B D_clock
  have Q_int := ok_is_integerQ (c := c) A_is_integer B
  have Q_name := ok_is_nameQ (c := c) A_is_name B Bc'
  have Q_names := ok_are_ascending_namesQ (c := c) A_are_ascending_names B Q_name D_asc
  have Q_pof := ok_are_pages_ofQ (c := c) (C := C) A_are_pages_of B D_pages Q_names
  have Q_isw := ok_is_watchQ (c := c) (C := C) A_is_watch B D_clock Q_pof
  have Q_chw := ok_check_watchQ (c := c) (C := C) A_check_watch (Ex.er 0 "BadWatch" rfl) Q_isw
  have Q_turns := ok_turns_ofQ (c := c) (C := C) A_turns_of B (Ex.er 1 "BadRun" rfl) D_clock D_run D_place (by decide +kernel)
  have D_marks := ok_marks_of (c := c) A_marks_of B
  have D_wo := ok_without_seen (c := c) A_without_seen B
  have D_wi := ok_with_touches (c := c) (C := C) A_with_touches B D_pages D_page (by decide +kernel)
  have Q_su := ok_seen_and_unseenQ (c := c) (C := C) A_seen_and_unseen B D_clock Q_chw Q_turns D_place D_wi D_marks D_wo
  have Q_seen := ok_seenQ (c := c) (C := C) A_seen Q_su
  have Q_unseen := ok_unseenQ (c := c) (C := C) A_unseen Q_su
  have Q_coarser := ok_coarserQ (c := c) (C := C) A_coarser B Q_chw
  have D_pot := ok_pot_of (c := c) A__law_pot_of B
  have D_of := ok_of (c := c) A__law_of B D_take
  have D_some := ok_some_steps (c := c) A__law_some_steps B D_take D_of
  have D_setsof := ok_sets_of (c := c) A__law_sets_of B
  have D_lore := ok_lore (c := c) A__law_lore B D_take D_of D_some D_setsof
  have D_lstep := ok_lstep (c := c) A__law_step B
  have D_llater := ok_llater (c := c) A__law_later B D_lstep
  have D_dwat := ok_dwatch (c := c) A__law_drawn_watch B D_take
  have D_lrun := ok_lrun (c := c) A__law_drawn_run B D_take D_llater D_of
  have D_lmade := ok_lmade (c := c) (C := C) A__law_made D_mac
  have D_lnum := ok_lnum (c := c) A__law_is_number B
  have D_odd := ok_odd (c := c) A__law_odd B D_of
  have D_bent := ok_bent (c := c) A__law_bent B D_take D_of D_odd D_lnum 2
  have D_road := ok_lroad (c := c) A__law_is_run_of B D_llater
  have D_lwat := ok_lwatch (c := c) A__law_is_watch_of B
  have G_heard := gv_law_heard (c := c) A__law_heard B Ex
  have D_asked := ok_asked (c := c) (C := C) A_tab B TB D_lwat D_road Q_isw G_heard Q_seen Q_unseen Q_coarser
  have D_right := ok_right (c := c) (C := C) A__law_right B D_lore D_lmade D_dwat D_lrun D_odd D_of D_bent D_asked
  exact ok_law (c := c) T.dlaw.fn B D_pot D_right
theorem walk09 {l : PySem.W.OpenLaw} {q : Program} {loose : List Str} {XP : (Str → Option Value) → Heap → Prop} {YP : World → Heap → Prop} {d : DefRec} {K : Params → PySem.W.Frag} (hn : l.most = some 63) (hdf : d.params.defaults = []) (hd : d.name = "law") (r1 : ((recsOf q).any fun e => e.name == "_law_asked_right") = true)
    (hL : valOf q "LETTERS" = some (.str lettersZ)) (hI : ∀ p ∈ numsZ, valOf q p.1 = some (.int p.2)) (hY : ∀ (w : World) (h : Heap), YP w h → (K w.params).In h)
    (F : ∀ w : World, ∃ C fl cc P fdl, Txt (K w.params) C fl cc P fdl) : PySem.W.WalkO q loose XP YP l.row.toRowW d [] (fun f vs => PySem.call f vs) := by
  refine Att.attach_callB hn hdf fun w s₀ s₁ mg mb fa o pm cd doc a vs ns G Y ho hd' hcd hmg hobj hints hlen hbits hg => ?_
  have KX := hY w _ Y
  obtain ⟨C, fl, cc, P, fdl, T⟩ := F w
  obtain ⟨fT, fdT, FC⟩ := T.dtab
  have t1 : s₁.heap.get? P = some (PySem.W.tabObj #[]) ∧ PySem.W.CodeHd s₁.heap cc P := by
    obtain ⟨dL, hm, hn1⟩ := List.any_eq_true.mp r1
    have hn2 : dL.name = "_law_asked_right" := beq_iff_eq.mp hn1
    obtain ⟨a', o', fd', c', P', h1, h2, h3, h4, h5, h6⟩ := G.T.tab dL hm
    rw [hn2, PySem.W.mg_of KX G.T.g FC.at_] at h1
    cases h1
    obtain ⟨oc, od, sl, lk⟩ := FC.lk
    rw [KX _ _ lk] at h2
    cases h2
    cases h3
    rw [FC.cd] at h4
    cases h4
    obtain ⟨e, dd, us, sl2, lc, hP⟩ := FC.co
    have h6' := h6
    obtain ⟨⟨oo, us', z1, z2, z3, z4⟩, z5⟩ := h6'
    rw [KX _ _ lc] at z1
    cases z1
    cases z3
    rw [hP] at z4
    cases z4
    exact ⟨z5, PySem.W.CodeHd.of h5 h6⟩
  have hfa : fa = fl := by
    rw [hd, PySem.W.mg_of KX G.T.g T.dlaw.at_] at hmg
    cases hmg
    rfl
  subst hfa
  have kL : ∃ t, mg "LETTERS" = some (.str lettersZ t) := by
    obtain ⟨v, h1, h2⟩ := G.T.const _ _ hL
    have h3 := h2 s₁.heap
    cases h3
    exact ⟨_, h1⟩
  have kI : ∀ p ∈ numsZ, ∃ t, mg p.1 = some (.int p.2 t) := fun p hp => by
    obtain ⟨v, h1, h2⟩ := G.T.const _ _ (hI p hp)
    have h3 := h2 s₁.heap
    generalize p.2 = n at h3
    cases h3
    exact ⟨_, h1⟩
  refine law_callGT (cs := [(cc, P)]) (k := 14) (x := "_law_script") (sp := fun vs H Q E => spLaw ⟨l.prog, w, K w.params, mg, s₁.heap⟩ P vs H Q E) KX G.T.g G.T.b G.T.builtins G.T.nolimit hg (fun p hp => by rw [List.mem_singleton.mp hp]; exact t1.1) (fun p hp => by rw [List.mem_singleton.mp hp]; exact FC.no) (fun p hp => by rw [List.mem_singleton.mp hp]; exact t1.2) G.T.bmain hobj hints (Nat.le_trans hlen (by decide)) ⟨rfl, by decide, by decide⟩ (fun base Xb Gb TB => law09 T kL kI Xb Gb (TB (cc, P) (List.mem_singleton.mpr rfl))) ?_ (fun H hH hS => ?_) fun H e s' z => ?_
  · intro s u
    exact .of_eq (T.dlaw.bi [u] rfl)
  · exact ⟨a, ns, rfl, hS, hlen, hbits, TabS.nil (hH (cc, P) (List.mem_singleton.mpr rfl)), fun _ => rfl⟩
  · obtain ⟨_, _, _, _, _, _, _, _, _, _, _, _, y⟩ := z
    exact y.elim
theorem txt_mk {K : PySem.W.Frag} {C fl : Addr} {oc kV dc pm cd ct : Value} {od an : Option Addr} {sl : Array (Option Value)}
    (cat : PySem.W.nsIn K mainGlobals "Machine" = some (some (.ref C)))
    (a : PySem.W.nsIn K mainGlobals "law" = some (some (.ref fl))) (l : K.lookup fl = some ⟨oc, od, .func (PySem.W.fnOf "law" "law" (defArgs s_law) (defBody s_law) (defScope s_law) .none kV dc pm an cd ct), sl⟩) (c : PySem.W.codeIn K cd "law" = true) (k : PySem.W.keepIn K (.ref fl) = true)
    (dtab : ∃ f cc P fd, FactC K "_law_asked_right" s__law_asked_right P__law_asked_right f cc P fd)
    (d_is_integer : ∃ f fd, Fact K "is_integer" "is_integer" s_is_integer P_is_integer f fd)
    (d_is_integer_in : ∃ f fd, Fact K "is_integer_in" "is_integer_in" s_is_integer_in P_is_integer_in f fd)
    (d_is_name : ∃ f fd, Fact K "is_name" "is_name" s_is_name P_is_name f fd)
    (d_is_ascending : ∃ f fd, Fact K "is_ascending" "is_ascending" s_is_ascending P_is_ascending f fd)
    (d_are_ascending_names : ∃ f fd, Fact K "are_ascending_names" "are_ascending_names" s_are_ascending_names P_are_ascending_names f fd)
    (d_are_pages_of : ∃ f fd, Fact K "are_pages_of" "are_pages_of" s_are_pages_of P_are_pages_of f fd)
    (d_place_of : ∃ f fd, Fact K "place_of" "place_of" s_place_of P_place_of f fd)
    (d_turns_of : ∃ f fd, Fact K "turns_of" "turns_of" s_turns_of P_turns_of f fd)
    (d_is_watch : ∃ f fd, Fact K "is_watch" "is_watch" s_is_watch P_is_watch f fd)
    (d_check_watch : ∃ f fd, Fact K "check_watch" "check_watch" s_check_watch P_check_watch f fd)
    (d_with_touches : ∃ f fd, Fact K "with_touches" "with_touches" s_with_touches P_with_touches f fd)
    (d_marks_of : ∃ f fd, Fact K "marks_of" "marks_of" s_marks_of P_marks_of f fd)
    (d_without_seen : ∃ f fd, Fact K "without_seen" "without_seen" s_without_seen P_without_seen f fd)
    (d_seen_and_unseen : ∃ f fd, Fact K "seen_and_unseen" "seen_and_unseen" s_seen_and_unseen P_seen_and_unseen f fd)
    (d_seen : ∃ f fd, Fact K "seen" "seen" s_seen P_seen f fd)
    (d_unseen : ∃ f fd, Fact K "unseen" "unseen" s_unseen P_unseen f fd)
    (d_coarser : ∃ f fd, Fact K "coarser" "coarser" s_coarser P_coarser f fd)
    (d_is_step : ∃ f fd, Fact K "is_step" "is_step" s_is_step P_is_step f fd)
    (d_are_steps : ∃ f fd, Fact K "are_steps" "are_steps" s_are_steps P_are_steps f fd)
    (d_is_clock : ∃ f fd, Fact K "is_clock" "is_clock" s_is_clock P_is_clock f fd)
    (d_are_pages : ∃ f fd, Fact K "are_pages" "are_pages" s_are_pages P_are_pages f fd)
    (d_is_set : ∃ f fd, Fact K "is_set" "is_set" s_is_set P_is_set f fd)
    (d__law_take : ∃ f fd, Fact K "_law_take" "_law_take" s__law_take P__law_take f fd)
    (d__law_pot_of : ∃ f fd, Fact K "_law_pot_of" "_law_pot_of" s__law_pot_of P__law_pot_of f fd)
    (d__law_of : ∃ f fd, Fact K "_law_of" "_law_of" s__law_of P__law_of f fd)
    (d__law_some_steps : ∃ f fd, Fact K "_law_some_steps" "_law_some_steps" s__law_some_steps P__law_some_steps f fd)
    (d__law_lore : ∃ f fd, Fact K "_law_lore" "_law_lore" s__law_lore P__law_lore f fd)
    (d__law_sets_of : ∃ f fd, Fact K "_law_sets_of" "_law_sets_of" s__law_sets_of P__law_sets_of f fd)
    (d__law_step : ∃ f fd, Fact K "_law_step" "_law_step" s__law_step P__law_step f fd)
    (d__law_later : ∃ f fd, Fact K "_law_later" "_law_later" s__law_later P__law_later f fd)
    (d__law_drawn_watch : ∃ f fd, Fact K "_law_drawn_watch" "_law_drawn_watch" s__law_drawn_watch P__law_drawn_watch f fd)
    (d__law_drawn_run : ∃ f fd, Fact K "_law_drawn_run" "_law_drawn_run" s__law_drawn_run P__law_drawn_run f fd)
    (d__law_made : ∃ f fd, Fact K "_law_made" "_law_made" s__law_made P__law_made f fd)
    (d__law_is_number : ∃ f fd, Fact K "_law_is_number" "_law_is_number" s__law_is_number P__law_is_number f fd)
    (d__law_odd : ∃ f fd, Fact K "_law_odd" "_law_odd" s__law_odd P__law_odd f fd)
    (d__law_bent : ∃ f fd, Fact K "_law_bent" "_law_bent" s__law_bent P__law_bent f fd)
    (d__law_is_run_of : ∃ f fd, Fact K "_law_is_run_of" "_law_is_run_of" s__law_is_run_of P__law_is_run_of f fd)
    (d__law_is_watch_of : ∃ f fd, Fact K "_law_is_watch_of" "_law_is_watch_of" s__law_is_watch_of P__law_is_watch_of f fd)
    (d__law_heard : ∃ f fd, Fact K "_law_heard" "_law_heard" s__law_heard P__law_heard f fd)
    (d__law_right : ∃ f fd, Fact K "_law_right" "_law_right" s__law_right P__law_right f fd)
    (ini : ∃ f fd, Mk K C f ∧ Fun K "__init__" "Machine.__init__" s_Machine___init__ f fd ∧ Binds K fd P_Machine___init__ [])
    (m__check_step : ∃ f fd, Meth K C "_check_step" f ∧ Fun K "_check_step" "Machine._check_step" s_Machine__check_step f fd ∧ Binds K fd P_Machine__check_step [])
    (m_page : ∃ f fd, Meth K C "page" f ∧ Fun K "page" "Machine.page" s_Machine_page f fd ∧ Binds K fd P_Machine_page [])
    (m_is_run : ∃ f fd, Meth K C "is_run" f ∧ Fun K "is_run" "Machine.is_run" s_Machine_is_run f fd ∧ Binds K fd P_Machine_is_run [])
    (p_clock : ∃ p f fd, PropOf K C "clock" p f ∧ Fun K "clock" "Machine.clock" s_Machine_clock f fd ∧ Binds K fd P_Machine_clock [])
    (p_pages : ∃ p f fd, PropOf K C "pages" p f ∧ Fun K "pages" "Machine.pages" s_Machine_pages f fd ∧ Binds K fd P_Machine_pages [])
    (comb : PySem.W.nsIn K mainGlobals "combinations" = some (some (.type "itertools.combinations"))) (cls : clsB K C = true) (noa : noaB K C = true) (blt : bltB K = true) (er : ∃ fI, ErTxt K threeE s_SeldomError___init__ fI) : ∃ C fl cc P fdl, Txt K C fl cc P fdl := by
  obtain ⟨fT, cc, P, fdT, FC⟩ := dtab
  exact ⟨C, fl, cc, P, PySem.W.fnOf "law" "law" (defArgs s_law) (defBody s_law) (defScope s_law)   .none kV dc pm an cd ct, ⟨fT, fdT, FC⟩, cat, ⟨a, fun_mk l c k, fun us h => (match us, h with | [_], _ => rfl)⟩, d_is_integer, d_is_integer_in, d_is_name, d_is_ascending, d_are_ascending_names, d_are_pages_of, d_place_of, d_turns_of, d_is_watch, d_check_watch, d_with_touches, d_marks_of, d_without_seen, d_seen_and_unseen, d_seen, d_unseen, d_coarser, d_is_step, d_are_steps, d_is_clock, d_are_pages, d_is_set, d__law_take, d__law_pot_of, d__law_of, d__law_some_steps, d__law_lore, d__law_sets_of, d__law_step, d__law_later, d__law_drawn_watch, d__law_drawn_run, d__law_made, d__law_is_number, d__law_odd, d__law_bent, d__law_is_run_of, d__law_is_watch_of, d__law_heard, d__law_right, ini, m__check_step, m_page, m_is_run, p_clock, p_pages, comb, cls, noa, blt, er⟩
end Sd

open PySem PySem.W PyProof.Rows
open_top hd09 for PySem.Challenge.rw_seldomseen_k09_watches_of_any_value

open PySem PySem.W PyProof.Rows
theorem PySem.Challenge.cw_seldomseen_k09_watches_of_any_value_holds : PySem.Challenge.rw_seldomseen_k09_watches_of_any_value.Holds := by
  refine hd09 ?_
  k_fill
  refine Sd.walk09 rfl rfl rfl ?r1 ?hL ?hI (fun w h Y => by first | exact PySem.W.kIn_of Y | exact PySem.W.km_in_of Y) ?F
  case r1 => kernel_rfl
  case hL => kernel_rfl
  case hI =>
    intro p hp
    simp only [Sd.numsZ, List.mem_cons, List.not_mem_nil, or_false] at hp
    rcases hp with h | h | h | h | h | h | h | h <;> subst h <;> kernel_rfl
  case F =>
    intro w
    refine' Sd.txt_mk ?cat ?a ?l ?c ?k ?dtab ?d_is_integer ?d_is_integer_in ?d_is_name ?d_is_ascending ?d_are_ascending_names ?d_are_pages_of ?d_place_of ?d_turns_of ?d_is_watch ?d_check_watch ?d_with_touches ?d_marks_of ?d_without_seen ?d_seen_and_unseen ?d_seen ?d_unseen ?d_coarser ?d_is_step ?d_are_steps ?d_is_clock ?d_are_pages ?d_is_set ?d__law_take ?d__law_pot_of ?d__law_of ?d__law_some_steps ?d__law_lore ?d__law_sets_of ?d__law_step ?d__law_later ?d__law_drawn_watch ?d__law_drawn_run ?d__law_made ?d__law_is_number ?d__law_odd ?d__law_bent ?d__law_is_run_of ?d__law_is_watch_of ?d__law_heard ?d__law_right ?ini ?m__check_step ?m_page ?m_is_run ?p_clock ?p_pages ?comb ?cls ?noa ?blt ?er
    (case cat => k_is)
    (case a => k_is)
    (case l => k_is)
    (case c => k_is)
    (case k => k_is)
    (case dtab => (refine' Sd.factC_mk ?a ?l ?c ?k ?lc ?hP ?nP ?hb; (case a => k_is); (case l => k_is); (case c => k_is); (case k => k_is); (case lc => k_is); (case hP => rfl); (case nP => kernel_rfl); (case hb => first | exact fun us h => (match us, h with | [], _ => rfl) | exact fun us h => (match us, h with | [_], _ => rfl) | exact fun us h => (match us, h with | [_, _], _ => rfl) | exact fun us h => (match us, h with | [_, _, _], _ => rfl) | exact fun us h => (match us, h with | [_, _, _, _], _ => rfl) | exact fun us h => (match us, h with | [_, _, _, _, _], _ => rfl) | exact fun us h => (match us, h with | [_, _, _, _, _, _], _ => rfl))))
    (case d_is_integer => (refine' Sd.fact_mk ?a ?l ?c ?k ?hb; (case a => k_is); (case l => k_is); (case c => k_is); (case k => k_is); (case hb => first | exact fun us h => (match us, h with | [], _ => rfl) | exact fun us h => (match us, h with | [_], _ => rfl) | exact fun us h => (match us, h with | [_, _], _ => rfl) | exact fun us h => (match us, h with | [_, _, _], _ => rfl) | exact fun us h => (match us, h with | [_, _, _, _], _ => rfl) | exact fun us h => (match us, h with | [_, _, _, _, _], _ => rfl) | exact fun us h => (match us, h with | [_, _, _, _, _, _], _ => rfl))))
    (case d_is_integer_in => (refine' Sd.fact_mk ?a ?l ?c ?k ?hb; (case a => k_is); (case l => k_is); (case c => k_is); (case k => k_is); (case hb => first | exact fun us h => (match us, h with | [], _ => rfl) | exact fun us h => (match us, h with | [_], _ => rfl) | exact fun us h => (match us, h with | [_, _], _ => rfl) | exact fun us h => (match us, h with | [_, _, _], _ => rfl) | exact fun us h => (match us, h with | [_, _, _, _], _ => rfl) | exact fun us h => (match us, h with | [_, _, _, _, _], _ => rfl) | exact fun us h => (match us, h with | [_, _, _, _, _, _], _ => rfl))))
    (case d_is_name => (refine' Sd.fact_mk ?a ?l ?c ?k ?hb; (case a => k_is); (case l => k_is); (case c => k_is); (case k => k_is); (case hb => first | exact fun us h => (match us, h with | [], _ => rfl) | exact fun us h => (match us, h with | [_], _ => rfl) | exact fun us h => (match us, h with | [_, _], _ => rfl) | exact fun us h => (match us, h with | [_, _, _], _ => rfl) | exact fun us h => (match us, h with | [_, _, _, _], _ => rfl) | exact fun us h => (match us, h with | [_, _, _, _, _], _ => rfl) | exact fun us h => (match us, h with | [_, _, _, _, _, _], _ => rfl))))
    (case d_is_ascending => (refine' Sd.fact_mk ?a ?l ?c ?k ?hb; (case a => k_is); (case l => k_is); (case c => k_is); (case k => k_is); (case hb => first | exact fun us h => (match us, h with | [], _ => rfl) | exact fun us h => (match us, h with | [_], _ => rfl) | exact fun us h => (match us, h with | [_, _], _ => rfl) | exact fun us h => (match us, h with | [_, _, _], _ => rfl) | exact fun us h => (match us, h with | [_, _, _, _], _ => rfl) | exact fun us h => (match us, h with | [_, _, _, _, _], _ => rfl) | exact fun us h => (match us, h with | [_, _, _, _, _, _], _ => rfl))))
    (case d_are_ascending_names => (refine' Sd.fact_mk ?a ?l ?c ?k ?hb; (case a => k_is); (case l => k_is); (case c => k_is); (case k => k_is); (case hb => first | exact fun us h => (match us, h with | [], _ => rfl) | exact fun us h => (match us, h with | [_], _ => rfl) | exact fun us h => (match us, h with | [_, _], _ => rfl) | exact fun us h => (match us, h with | [_, _, _], _ => rfl) | exact fun us h => (match us, h with | [_, _, _, _], _ => rfl) | exact fun us h => (match us, h with | [_, _, _, _, _], _ => rfl) | exact fun us h => (match us, h with | [_, _, _, _, _, _], _ => rfl))))
    (case d_are_pages_of => (refine' Sd.fact_mk ?a ?l ?c ?k ?hb; (case a => k_is); (case l => k_is); (case c => k_is); (case k => k_is); (case hb => first | exact fun us h => (match us, h with | [], _ => rfl) | exact fun us h => (match us, h with | [_], _ => rfl) | exact fun us h => (match us, h with | [_, _], _ => rfl) | exact fun us h => (match us, h with | [_, _, _], _ => rfl) | exact fun us h => (match us, h with | [_, _, _, _], _ => rfl) | exact fun us h => (match us, h with | [_, _, _, _, _], _ => rfl) | exact fun us h => (match us, h with | [_, _, _, _, _, _], _ => rfl))))
    (case d_place_of => (refine' Sd.fact_mk ?a ?l ?c ?k ?hb; (case a => k_is); (case l => k_is); (case c => k_is); (case k => k_is); (case hb => first | exact fun us h => (match us, h with | [], _ => rfl) | exact fun us h => (match us, h with | [_], _ => rfl) | exact fun us h => (match us, h with | [_, _], _ => rfl) | exact fun us h => (match us, h with | [_, _, _], _ => rfl) | exact fun us h => (match us, h with | [_, _, _, _], _ => rfl) | exact fun us h => (match us, h with | [_, _, _, _, _], _ => rfl) | exact fun us h => (match us, h with | [_, _, _, _, _, _], _ => rfl))))
    (case d_turns_of => (refine' Sd.fact_mk ?a ?l ?c ?k ?hb; (case a => k_is); (case l => k_is); (case c => k_is); (case k => k_is); (case hb => first | exact fun us h => (match us, h with | [], _ => rfl) | exact fun us h => (match us, h with | [_], _ => rfl) | exact fun us h => (match us, h with | [_, _], _ => rfl) | exact fun us h => (match us, h with | [_, _, _], _ => rfl) | exact fun us h => (match us, h with | [_, _, _, _], _ => rfl) | exact fun us h => (match us, h with | [_, _, _, _, _], _ => rfl) | exact fun us h => (match us, h with | [_, _, _, _, _, _], _ => rfl))))
    (case d_is_watch => (refine' Sd.fact_mk ?a ?l ?c ?k ?hb; (case a => k_is); (case l => k_is); (case c => k_is); (case k => k_is); (case hb => first | exact fun us h => (match us, h with | [], _ => rfl) | exact fun us h => (match us, h with | [_], _ => rfl) | exact fun us h => (match us, h with | [_, _], _ => rfl) | exact fun us h => (match us, h with | [_, _, _], _ => rfl) | exact fun us h => (match us, h with | [_, _, _, _], _ => rfl) | exact fun us h => (match us, h with | [_, _, _, _, _], _ => rfl) | exact fun us h => (match us, h with | [_, _, _, _, _, _], _ => rfl))))
    (case d_check_watch => (refine' Sd.fact_mk ?a ?l ?c ?k ?hb; (case a => k_is); (case l => k_is); (case c => k_is); (case k => k_is); (case hb => first | exact fun us h => (match us, h with | [], _ => rfl) | exact fun us h => (match us, h with | [_], _ => rfl) | exact fun us h => (match us, h with | [_, _], _ => rfl) | exact fun us h => (match us, h with | [_, _, _], _ => rfl) | exact fun us h => (match us, h with | [_, _, _, _], _ => rfl) | exact fun us h => (match us, h with | [_, _, _, _, _], _ => rfl) | exact fun us h => (match us, h with | [_, _, _, _, _, _], _ => rfl))))
    (case d_with_touches => (refine' Sd.fact_mk ?a ?l ?c ?k ?hb; (case a => k_is); (case l => k_is); (case c => k_is); (case k => k_is); (case hb => first | exact fun us h => (match us, h with | [], _ => rfl) | exact fun us h => (match us, h with | [_], _ => rfl) | exact fun us h => (match us, h with | [_, _], _ => rfl) | exact fun us h => (match us, h with | [_, _, _], _ => rfl) | exact fun us h => (match us, h with | [_, _, _, _], _ => rfl) | exact fun us h => (match us, h with | [_, _, _, _, _], _ => rfl) | exact fun us h => (match us, h with | [_, _, _, _, _, _], _ => rfl))))
    (case d_marks_of => (refine' Sd.fact_mk ?a ?l ?c ?k ?hb; (case a => k_is); (case l => k_is); (case c => k_is); (case k => k_is); (case hb => first | exact fun us h => (match us, h with | [], _ => rfl) | exact fun us h => (match us, h with | [_], _ => rfl) | exact fun us h => (match us, h with | [_, _], _ => rfl) | exact fun us h => (match us, h with | [_, _, _], _ => rfl) | exact fun us h => (match us, h with | [_, _, _, _], _ => rfl) | exact fun us h => (match us, h with | [_, _, _, _, _], _ => rfl) | exact fun us h => (match us, h with | [_, _, _, _, _, _], _ => rfl))))
    (case d_without_seen => (refine' Sd.fact_mk ?a ?l ?c ?k ?hb; (case a => k_is); (case l => k_is); (case c => k_is); (case k => k_is); (case hb => first | exact fun us h => (match us, h with | [], _ => rfl) | exact fun us h => (match us, h with | [_], _ => rfl) | exact fun us h => (match us, h with | [_, _], _ => rfl) | exact fun us h => (match us, h with | [_, _, _], _ => rfl) | exact fun us h => (match us, h with | [_, _, _, _], _ => rfl) | exact fun us h => (match us, h with | [_, _, _, _, _], _ => rfl) | exact fun us h => (match us, h with | [_, _, _, _, _, _], _ => rfl))))
    (case d_seen_and_unseen => (refine' Sd.fact_mk ?a ?l ?c ?k ?hb; (case a => k_is); (case l => k_is); (case c => k_is); (case k => k_is); (case hb => first | exact fun us h => (match us, h with | [], _ => rfl) | exact fun us h => (match us, h with | [_], _ => rfl) | exact fun us h => (match us, h with | [_, _], _ => rfl) | exact fun us h => (match us, h with | [_, _, _], _ => rfl) | exact fun us h => (match us, h with | [_, _, _, _], _ => rfl) | exact fun us h => (match us, h with | [_, _, _, _, _], _ => rfl) | exact fun us h => (match us, h with | [_, _, _, _, _, _], _ => rfl))))
    (case d_seen => (refine' Sd.fact_mk ?a ?l ?c ?k ?hb; (case a => k_is); (case l => k_is); (case c => k_is); (case k => k_is); (case hb => first | exact fun us h => (match us, h with | [], _ => rfl) | exact fun us h => (match us, h with | [_], _ => rfl) | exact fun us h => (match us, h with | [_, _], _ => rfl) | exact fun us h => (match us, h with | [_, _, _], _ => rfl) | exact fun us h => (match us, h with | [_, _, _, _], _ => rfl) | exact fun us h => (match us, h with | [_, _, _, _, _], _ => rfl) | exact fun us h => (match us, h with | [_, _, _, _, _, _], _ => rfl))))
    (case d_unseen => (refine' Sd.fact_mk ?a ?l ?c ?k ?hb; (case a => k_is); (case l => k_is); (case c => k_is); (case k => k_is); (case hb => first | exact fun us h => (match us, h with | [], _ => rfl) | exact fun us h => (match us, h with | [_], _ => rfl) | exact fun us h => (match us, h with | [_, _], _ => rfl) | exact fun us h => (match us, h with | [_, _, _], _ => rfl) | exact fun us h => (match us, h with | [_, _, _, _], _ => rfl) | exact fun us h => (match us, h with | [_, _, _, _, _], _ => rfl) | exact fun us h => (match us, h with | [_, _, _, _, _, _], _ => rfl))))
    (case d_coarser => (refine' Sd.fact_mk ?a ?l ?c ?k ?hb; (case a => k_is); (case l => k_is); (case c => k_is); (case k => k_is); (case hb => first | exact fun us h => (match us, h with | [], _ => rfl) | exact fun us h => (match us, h with | [_], _ => rfl) | exact fun us h => (match us, h with | [_, _], _ => rfl) | exact fun us h => (match us, h with | [_, _, _], _ => rfl) | exact fun us h => (match us, h with | [_, _, _, _], _ => rfl) | exact fun us h => (match us, h with | [_, _, _, _, _], _ => rfl) | exact fun us h => (match us, h with | [_, _, _, _, _, _], _ => rfl))))
    (case d_is_step => (refine' Sd.fact_mk ?a ?l ?c ?k ?hb; (case a => k_is); (case l => k_is); (case c => k_is); (case k => k_is); (case hb => first | exact fun us h => (match us, h with | [], _ => rfl) | exact fun us h => (match us, h with | [_], _ => rfl) | exact fun us h => (match us, h with | [_, _], _ => rfl) | exact fun us h => (match us, h with | [_, _, _], _ => rfl) | exact fun us h => (match us, h with | [_, _, _, _], _ => rfl) | exact fun us h => (match us, h with | [_, _, _, _, _], _ => rfl) | exact fun us h => (match us, h with | [_, _, _, _, _, _], _ => rfl))))
    (case d_are_steps => (refine' Sd.fact_mk ?a ?l ?c ?k ?hb; (case a => k_is); (case l => k_is); (case c => k_is); (case k => k_is); (case hb => first | exact fun us h => (match us, h with | [], _ => rfl) | exact fun us h => (match us, h with | [_], _ => rfl) | exact fun us h => (match us, h with | [_, _], _ => rfl) | exact fun us h => (match us, h with | [_, _, _], _ => rfl) | exact fun us h => (match us, h with | [_, _, _, _], _ => rfl) | exact fun us h => (match us, h with | [_, _, _, _, _], _ => rfl) | exact fun us h => (match us, h with | [_, _, _, _, _, _], _ => rfl))))
    (case d_is_clock => (refine' Sd.fact_mk ?a ?l ?c ?k ?hb; (case a => k_is); (case l => k_is); (case c => k_is); (case k => k_is); (case hb => first | exact fun us h => (match us, h with | [], _ => rfl) | exact fun us h => (match us, h with | [_], _ => rfl) | exact fun us h => (match us, h with | [_, _], _ => rfl) | exact fun us h => (match us, h with | [_, _, _], _ => rfl) | exact fun us h => (match us, h with | [_, _, _, _], _ => rfl) | exact fun us h => (match us, h with | [_, _, _, _, _], _ => rfl) | exact fun us h => (match us, h with | [_, _, _, _, _, _], _ => rfl))))
    (case d_are_pages => (refine' Sd.fact_mk ?a ?l ?c ?k ?hb; (case a => k_is); (case l => k_is); (case c => k_is); (case k => k_is); (case hb => first | exact fun us h => (match us, h with | [], _ => rfl) | exact fun us h => (match us, h with | [_], _ => rfl) | exact fun us h => (match us, h with | [_, _], _ => rfl) | exact fun us h => (match us, h with | [_, _, _], _ => rfl) | exact fun us h => (match us, h with | [_, _, _, _], _ => rfl) | exact fun us h => (match us, h with | [_, _, _, _, _], _ => rfl) | exact fun us h => (match us, h with | [_, _, _, _, _, _], _ => rfl))))
    (case d_is_set => (refine' Sd.fact_mk ?a ?l ?c ?k ?hb; (case a => k_is); (case l => k_is); (case c => k_is); (case k => k_is); (case hb => first | exact fun us h => (match us, h with | [], _ => rfl) | exact fun us h => (match us, h with | [_], _ => rfl) | exact fun us h => (match us, h with | [_, _], _ => rfl) | exact fun us h => (match us, h with | [_, _, _], _ => rfl) | exact fun us h => (match us, h with | [_, _, _, _], _ => rfl) | exact fun us h => (match us, h with | [_, _, _, _, _], _ => rfl) | exact fun us h => (match us, h with | [_, _, _, _, _, _], _ => rfl))))
    (case d__law_take => (refine' Sd.fact_mk ?a ?l ?c ?k ?hb; (case a => k_is); (case l => k_is); (case c => k_is); (case k => k_is); (case hb => first | exact fun us h => (match us, h with | [], _ => rfl) | exact fun us h => (match us, h with | [_], _ => rfl) | exact fun us h => (match us, h with | [_, _], _ => rfl) | exact fun us h => (match us, h with | [_, _, _], _ => rfl) | exact fun us h => (match us, h with | [_, _, _, _], _ => rfl) | exact fun us h => (match us, h with | [_, _, _, _, _], _ => rfl) | exact fun us h => (match us, h with | [_, _, _, _, _, _], _ => rfl))))
    (case d__law_pot_of => (refine' Sd.fact_mk ?a ?l ?c ?k ?hb; (case a => k_is); (case l => k_is); (case c => k_is); (case k => k_is); (case hb => first | exact fun us h => (match us, h with | [], _ => rfl) | exact fun us h => (match us, h with | [_], _ => rfl) | exact fun us h => (match us, h with | [_, _], _ => rfl) | exact fun us h => (match us, h with | [_, _, _], _ => rfl) | exact fun us h => (match us, h with | [_, _, _, _], _ => rfl) | exact fun us h => (match us, h with | [_, _, _, _, _], _ => rfl) | exact fun us h => (match us, h with | [_, _, _, _, _, _], _ => rfl))))
    (case d__law_of => (refine' Sd.fact_mk ?a ?l ?c ?k ?hb; (case a => k_is); (case l => k_is); (case c => k_is); (case k => k_is); (case hb => first | exact fun us h => (match us, h with | [], _ => rfl) | exact fun us h => (match us, h with | [_], _ => rfl) | exact fun us h => (match us, h with | [_, _], _ => rfl) | exact fun us h => (match us, h with | [_, _, _], _ => rfl) | exact fun us h => (match us, h with | [_, _, _, _], _ => rfl) | exact fun us h => (match us, h with | [_, _, _, _, _], _ => rfl) | exact fun us h => (match us, h with | [_, _, _, _, _, _], _ => rfl))))
    (case d__law_some_steps => (refine' Sd.fact_mk ?a ?l ?c ?k ?hb; (case a => k_is); (case l => k_is); (case c => k_is); (case k => k_is); (case hb => first | exact fun us h => (match us, h with | [], _ => rfl) | exact fun us h => (match us, h with | [_], _ => rfl) | exact fun us h => (match us, h with | [_, _], _ => rfl) | exact fun us h => (match us, h with | [_, _, _], _ => rfl) | exact fun us h => (match us, h with | [_, _, _, _], _ => rfl) | exact fun us h => (match us, h with | [_, _, _, _, _], _ => rfl) | exact fun us h => (match us, h with | [_, _, _, _, _, _], _ => rfl))))
    (case d__law_lore => (refine' Sd.fact_mk ?a ?l ?c ?k ?hb; (case a => k_is); (case l => k_is); (case c => k_is); (case k => k_is); (case hb => first | exact fun us h => (match us, h with | [], _ => rfl) | exact fun us h => (match us, h with | [_], _ => rfl) | exact fun us h => (match us, h with | [_, _], _ => rfl) | exact fun us h => (match us, h with | [_, _, _], _ => rfl) | exact fun us h => (match us, h with | [_, _, _, _], _ => rfl) | exact fun us h => (match us, h with | [_, _, _, _, _], _ => rfl) | exact fun us h => (match us, h with | [_, _, _, _, _, _], _ => rfl))))
    (case d__law_sets_of => (refine' Sd.fact_mk ?a ?l ?c ?k ?hb; (case a => k_is); (case l => k_is); (case c => k_is); (case k => k_is); (case hb => first | exact fun us h => (match us, h with | [], _ => rfl) | exact fun us h => (match us, h with | [_], _ => rfl) | exact fun us h => (match us, h with | [_, _], _ => rfl) | exact fun us h => (match us, h with | [_, _, _], _ => rfl) | exact fun us h => (match us, h with | [_, _, _, _], _ => rfl) | exact fun us h => (match us, h with | [_, _, _, _, _], _ => rfl) | exact fun us h => (match us, h with | [_, _, _, _, _, _], _ => rfl))))
    (case d__law_step => (refine' Sd.fact_mk ?a ?l ?c ?k ?hb; (case a => k_is); (case l => k_is); (case c => k_is); (case k => k_is); (case hb => first | exact fun us h => (match us, h with | [], _ => rfl) | exact fun us h => (match us, h with | [_], _ => rfl) | exact fun us h => (match us, h with | [_, _], _ => rfl) | exact fun us h => (match us, h with | [_, _, _], _ => rfl) | exact fun us h => (match us, h with | [_, _, _, _], _ => rfl) | exact fun us h => (match us, h with | [_, _, _, _, _], _ => rfl) | exact fun us h => (match us, h with | [_, _, _, _, _, _], _ => rfl))))
    (case d__law_later => (refine' Sd.fact_mk ?a ?l ?c ?k ?hb; (case a => k_is); (case l => k_is); (case c => k_is); (case k => k_is); (case hb => first | exact fun us h => (match us, h with | [], _ => rfl) | exact fun us h => (match us, h with | [_], _ => rfl) | exact fun us h => (match us, h with | [_, _], _ => rfl) | exact fun us h => (match us, h with | [_, _, _], _ => rfl) | exact fun us h => (match us, h with | [_, _, _, _], _ => rfl) | exact fun us h => (match us, h with | [_, _, _, _, _], _ => rfl) | exact fun us h => (match us, h with | [_, _, _, _, _, _], _ => rfl))))
    (case d__law_drawn_watch => (refine' Sd.fact_mk ?a ?l ?c ?k ?hb; (case a => k_is); (case l => k_is); (case c => k_is); (case k => k_is); (case hb => first | exact fun us h => (match us, h with | [], _ => rfl) | exact fun us h => (match us, h with | [_], _ => rfl) | exact fun us h => (match us, h with | [_, _], _ => rfl) | exact fun us h => (match us, h with | [_, _, _], _ => rfl) | exact fun us h => (match us, h with | [_, _, _, _], _ => rfl) | exact fun us h => (match us, h with | [_, _, _, _, _], _ => rfl) | exact fun us h => (match us, h with | [_, _, _, _, _, _], _ => rfl))))
    (case d__law_drawn_run => (refine' Sd.fact_mk ?a ?l ?c ?k ?hb; (case a => k_is); (case l => k_is); (case c => k_is); (case k => k_is); (case hb => first | exact fun us h => (match us, h with | [], _ => rfl) | exact fun us h => (match us, h with | [_], _ => rfl) | exact fun us h => (match us, h with | [_, _], _ => rfl) | exact fun us h => (match us, h with | [_, _, _], _ => rfl) | exact fun us h => (match us, h with | [_, _, _, _], _ => rfl) | exact fun us h => (match us, h with | [_, _, _, _, _], _ => rfl) | exact fun us h => (match us, h with | [_, _, _, _, _, _], _ => rfl))))
    (case d__law_made => (refine' Sd.fact_mk ?a ?l ?c ?k ?hb; (case a => k_is); (case l => k_is); (case c => k_is); (case k => k_is); (case hb => first | exact fun us h => (match us, h with | [], _ => rfl) | exact fun us h => (match us, h with | [_], _ => rfl) | exact fun us h => (match us, h with | [_, _], _ => rfl) | exact fun us h => (match us, h with | [_, _, _], _ => rfl) | exact fun us h => (match us, h with | [_, _, _, _], _ => rfl) | exact fun us h => (match us, h with | [_, _, _, _, _], _ => rfl) | exact fun us h => (match us, h with | [_, _, _, _, _, _], _ => rfl))))
    (case d__law_is_number => (refine' Sd.fact_mk ?a ?l ?c ?k ?hb; (case a => k_is); (case l => k_is); (case c => k_is); (case k => k_is); (case hb => first | exact fun us h => (match us, h with | [], _ => rfl) | exact fun us h => (match us, h with | [_], _ => rfl) | exact fun us h => (match us, h with | [_, _], _ => rfl) | exact fun us h => (match us, h with | [_, _, _], _ => rfl) | exact fun us h => (match us, h with | [_, _, _, _], _ => rfl) | exact fun us h => (match us, h with | [_, _, _, _, _], _ => rfl) | exact fun us h => (match us, h with | [_, _, _, _, _, _], _ => rfl))))
    (case d__law_odd => (refine' Sd.fact_mk ?a ?l ?c ?k ?hb; (case a => k_is); (case l => k_is); (case c => k_is); (case k => k_is); (case hb => first | exact fun us h => (match us, h with | [], _ => rfl) | exact fun us h => (match us, h with | [_], _ => rfl) | exact fun us h => (match us, h with | [_, _], _ => rfl) | exact fun us h => (match us, h with | [_, _, _], _ => rfl) | exact fun us h => (match us, h with | [_, _, _, _], _ => rfl) | exact fun us h => (match us, h with | [_, _, _, _, _], _ => rfl) | exact fun us h => (match us, h with | [_, _, _, _, _, _], _ => rfl))))
    (case d__law_bent => (refine' Sd.fact_mk ?a ?l ?c ?k ?hb; (case a => k_is); (case l => k_is); (case c => k_is); (case k => k_is); (case hb => first | exact fun us h => (match us, h with | [], _ => rfl) | exact fun us h => (match us, h with | [_], _ => rfl) | exact fun us h => (match us, h with | [_, _], _ => rfl) | exact fun us h => (match us, h with | [_, _, _], _ => rfl) | exact fun us h => (match us, h with | [_, _, _, _], _ => rfl) | exact fun us h => (match us, h with | [_, _, _, _, _], _ => rfl) | exact fun us h => (match us, h with | [_, _, _, _, _, _], _ => rfl))))
    (case d__law_is_run_of => (refine' Sd.fact_mk ?a ?l ?c ?k ?hb; (case a => k_is); (case l => k_is); (case c => k_is); (case k => k_is); (case hb => first | exact fun us h => (match us, h with | [], _ => rfl) | exact fun us h => (match us, h with | [_], _ => rfl) | exact fun us h => (match us, h with | [_, _], _ => rfl) | exact fun us h => (match us, h with | [_, _, _], _ => rfl) | exact fun us h => (match us, h with | [_, _, _, _], _ => rfl) | exact fun us h => (match us, h with | [_, _, _, _, _], _ => rfl) | exact fun us h => (match us, h with | [_, _, _, _, _, _], _ => rfl))))
    (case d__law_is_watch_of => (refine' Sd.fact_mk ?a ?l ?c ?k ?hb; (case a => k_is); (case l => k_is); (case c => k_is); (case k => k_is); (case hb => first | exact fun us h => (match us, h with | [], _ => rfl) | exact fun us h => (match us, h with | [_], _ => rfl) | exact fun us h => (match us, h with | [_, _], _ => rfl) | exact fun us h => (match us, h with | [_, _, _], _ => rfl) | exact fun us h => (match us, h with | [_, _, _, _], _ => rfl) | exact fun us h => (match us, h with | [_, _, _, _, _], _ => rfl) | exact fun us h => (match us, h with | [_, _, _, _, _, _], _ => rfl))))
    (case d__law_heard => (refine' Sd.fact_mk ?a ?l ?c ?k ?hb; (case a => k_is); (case l => k_is); (case c => k_is); (case k => k_is); (case hb => first | exact fun us h => (match us, h with | [], _ => rfl) | exact fun us h => (match us, h with | [_], _ => rfl) | exact fun us h => (match us, h with | [_, _], _ => rfl) | exact fun us h => (match us, h with | [_, _, _], _ => rfl) | exact fun us h => (match us, h with | [_, _, _, _], _ => rfl) | exact fun us h => (match us, h with | [_, _, _, _, _], _ => rfl) | exact fun us h => (match us, h with | [_, _, _, _, _, _], _ => rfl))))
    (case d__law_right => (refine' Sd.fact_mk ?a ?l ?c ?k ?hb; (case a => k_is); (case l => k_is); (case c => k_is); (case k => k_is); (case hb => first | exact fun us h => (match us, h with | [], _ => rfl) | exact fun us h => (match us, h with | [_], _ => rfl) | exact fun us h => (match us, h with | [_, _], _ => rfl) | exact fun us h => (match us, h with | [_, _, _], _ => rfl) | exact fun us h => (match us, h with | [_, _, _, _], _ => rfl) | exact fun us h => (match us, h with | [_, _, _, _, _], _ => rfl) | exact fun us h => (match us, h with | [_, _, _, _, _, _], _ => rfl))))
    (case ini => (refine' Sd.ini_mk ?mk ?ia ?ifn ?kC ?il ?ic ?ik ?ihb; (case mk => k_is); (case ia => k_is); (case ifn => k_is); (case kC => k_is); (case il => k_is); (case ic => k_is); (case ik => k_is); (case ihb => first | exact fun us h => (match us, h with | [], _ => rfl) | exact fun us h => (match us, h with | [_], _ => rfl) | exact fun us h => (match us, h with | [_, _], _ => rfl) | exact fun us h => (match us, h with | [_, _, _], _ => rfl) | exact fun us h => (match us, h with | [_, _, _, _], _ => rfl) | exact fun us h => (match us, h with | [_, _, _, _, _], _ => rfl) | exact fun us h => (match us, h with | [_, _, _, _, _, _], _ => rfl))))
    (case m__check_step => (refine' Sd.meth_mk ?a ?fn ?l ?c ?k ?hb; (case a => k_is); (case fn => k_is); (case l => k_is); (case c => k_is); (case k => k_is); (case hb => first | exact fun us h => (match us, h with | [], _ => rfl) | exact fun us h => (match us, h with | [_], _ => rfl) | exact fun us h => (match us, h with | [_, _], _ => rfl) | exact fun us h => (match us, h with | [_, _, _], _ => rfl) | exact fun us h => (match us, h with | [_, _, _, _], _ => rfl) | exact fun us h => (match us, h with | [_, _, _, _, _], _ => rfl) | exact fun us h => (match us, h with | [_, _, _, _, _, _], _ => rfl))))
    (case m_page => (refine' Sd.meth_mk ?a ?fn ?l ?c ?k ?hb; (case a => k_is); (case fn => k_is); (case l => k_is); (case c => k_is); (case k => k_is); (case hb => first | exact fun us h => (match us, h with | [], _ => rfl) | exact fun us h => (match us, h with | [_], _ => rfl) | exact fun us h => (match us, h with | [_, _], _ => rfl) | exact fun us h => (match us, h with | [_, _, _], _ => rfl) | exact fun us h => (match us, h with | [_, _, _, _], _ => rfl) | exact fun us h => (match us, h with | [_, _, _, _, _], _ => rfl) | exact fun us h => (match us, h with | [_, _, _, _, _, _], _ => rfl))))
    (case m_is_run => (refine' Sd.meth_mk ?a ?fn ?l ?c ?k ?hb; (case a => k_is); (case fn => k_is); (case l => k_is); (case c => k_is); (case k => k_is); (case hb => first | exact fun us h => (match us, h with | [], _ => rfl) | exact fun us h => (match us, h with | [_], _ => rfl) | exact fun us h => (match us, h with | [_, _], _ => rfl) | exact fun us h => (match us, h with | [_, _, _], _ => rfl) | exact fun us h => (match us, h with | [_, _, _, _], _ => rfl) | exact fun us h => (match us, h with | [_, _, _, _, _], _ => rfl) | exact fun us h => (match us, h with | [_, _, _, _, _, _], _ => rfl))))
    (case p_clock => (refine' Sd.prop_mk ?a ?g ?t ?r ?l ?c ?k ?hb; (case a => k_is); (case g => k_is); (case t => k_is); (case r => k_is); (case l => k_is); (case c => k_is); (case k => k_is); (case hb => first | exact fun us h => (match us, h with | [], _ => rfl) | exact fun us h => (match us, h with | [_], _ => rfl) | exact fun us h => (match us, h with | [_, _], _ => rfl) | exact fun us h => (match us, h with | [_, _, _], _ => rfl) | exact fun us h => (match us, h with | [_, _, _, _], _ => rfl) | exact fun us h => (match us, h with | [_, _, _, _, _], _ => rfl) | exact fun us h => (match us, h with | [_, _, _, _, _, _], _ => rfl))))
    (case p_pages => (refine' Sd.prop_mk ?a ?g ?t ?r ?l ?c ?k ?hb; (case a => k_is); (case g => k_is); (case t => k_is); (case r => k_is); (case l => k_is); (case c => k_is); (case k => k_is); (case hb => first | exact fun us h => (match us, h with | [], _ => rfl) | exact fun us h => (match us, h with | [_], _ => rfl) | exact fun us h => (match us, h with | [_, _], _ => rfl) | exact fun us h => (match us, h with | [_, _, _], _ => rfl) | exact fun us h => (match us, h with | [_, _, _, _], _ => rfl) | exact fun us h => (match us, h with | [_, _, _, _, _], _ => rfl) | exact fun us h => (match us, h with | [_, _, _, _, _, _], _ => rfl))))
    (case comb => k_is)
    (case cls => kernel_rfl)
    (case noa => kernel_rfl)
    (case blt => kernel_rfl)
    (case er => (refine' Sd.er_mk ?a0 ?i0 ?l0 ?c0 ?k0 ?t0 ?gt ?tk ?zS ?zA ?zT ?zM; (case a0 => k_is); (case i0 => k_is); (case l0 => k_is); (case c0 => k_is); (case k0 => k_is); (case t0 => k_is); (case gt => k_is); (case tk => k_is); (case zS => kernel_rfl); (case zA => kernel_rfl); (case zT => kernel_rfl); (case zM => kernel_rfl)))

