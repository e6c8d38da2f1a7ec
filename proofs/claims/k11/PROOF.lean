import PyProof.Rows.All
import Wide.All
import OpenK.AllK
import Wide.FinOn
import HandS.ForMost
import HandS.ForExc
import HandS.TupAny
import HandS.Deep
import HandS.IsInst
import HandS.Zip
import HandS.Rev
import HandS.Property
import HandS.DictComp
import HandS.Flow
import HandS.Wide
import HandS.RaiseMore
import HandS.Style
import HandS.TupMul
import HandS.Walk
import HandS.Base
import HandS.Call
import HandS.List
import HandS.Strs
import PyProof.ZipIter
import PyProof.CallType
import PyProof.Walk
import PyProof.WalkLemmas
import PyProof.RulesTry
import PyProof.TupleOfSeq
import PyProof.TupleOfGen
import PyProof.Draws
import PyProof.EnumMake
import KE.GoesZip
import KE.GoesMore
import HandS.Exc
import HandS.ExcInit
import KE.KIsAll
import KE.KTryMore
import HandS.ExcIs
import HandS.ExcField
import HandS.MakeKwOnly
import HandS.Lambda
import HandS.EndTab
import PySem.Challenge.RW_seldomseen_k11_what_is_not_seen
set_option Elab.async false
set_option linter.all false
set_option maxRecDepth 100000
set_option maxHeartbeats 0
/-! SdA: defs that are called where no repr is under way; the law's end for such -/
namespace Sd
open PySem PySem.Spec PyProof.Rows L2

/-- a def's promise where nothing is being shown around the call -/
structure FnG (P : Program) (w : World) (K : PySem.W.Frag) (mg : Str → Option Value) (base : Heap) (cx : CXT)
    (k : Nat) (f : Addr) (fd : FuncData) (ps : List Str) (sp : Sp) : Prop where
  many : ∀ vs H Q E, sp vs H Q E → vs.length = ps.length
  go : ∀ (A : Around) (out : List Env) (s : Shared) (H : Hp) (args : Args) (us : List Value) (vs : List V) (Q : VK) (E : XK),
    A.guards = some [] → Room k A → Env0 P w K mg base A out s H → BindsTo s fd args (ps.zip us) →
    Vals vs us → sp vs H Q E → codeAny (model P w) A (.call (.ref f) args) (CR cx out P w H s Q E) s

section
variable {P : Program} {w : World} {K : PySem.W.Frag} {mg : Str → Option Value} {base : Heap} {cx : CXT}
variable {k j : Nat} {f : Addr} {fd : FuncData} {ps : List Str} {sp : Sp}
theorem FnG.of (o : FnOk P w K mg base cx k f fd ps sp) : FnG P w K mg base cx k f fd ps sp :=
  ⟨o.len, fun A out s H args us vs Q E _ hr => o.run A out s H args us vs Q E hr⟩
theorem FnG.up (o : FnG P w K mg base cx j f fd ps sp) (h : j ≤ k) : FnG P w K mg base cx k f fd ps sp :=
  ⟨o.many, fun A out s H args us vs Q E g r => o.go A out s H args us vs Q E g (r.mono h)⟩
end

section
variable {X : Cx} {cx : CXT} {k : Nat} {f : Addr} {fd : FuncData} {ps : List Str} {sp : Sp} {dvs : List V} {ds : List Value}
variable {E : XK} {x : Str} {p pos : Pos} {e : Expr} {es : List Expr} {t : TA}
theorem go_fn {pins : List (Addr × Obj)} {σ : L2.St} {H : Hp} {s : Shared} {Q : VK} {us : List Value} {vs : List V}
    (o : FnG X.prog X.w X.K X.mg X.base cx k f fd ps sp) (hG : X.A.guards = some []) (hr : Room k X.A)
    (hb : Binds X.K fd ps ds) (hd : Vals dvs ds) (hx : Passes cx X E) (I : Inv X pins σ H s) (r : Vals vs us)
    (h : sp (vs ++ dvs) H Q E) : wpAny (model X.prog X.w) X.A (call (.ref f) us) (EP X pins σ Q) X.xe s := by
  have r2 := r.append hd
  have hl : (us ++ ds).length = ps.length := r2.length.symm.trans (o.many _ _ _ _ h)
  refine wpAny_call (codeAny_mono (o.go X.A X.stack s H ⟨us, []⟩ (us ++ ds) (vs ++ dvs) Q E hG hr I.env0
    (hb s us I.kIn hl) r2 h) ?_)
  intro z s' hq
  match z, hq with
  | .error e, hq => exact hx pins σ H s e s' I hq
  | .ok (.ret u), hq => exact I.after hq
  | .ok .next, hq => exact hq.elim
  | .ok .brk, hq => exact hq.elim
  | .ok .cont, hq => exact hq.elim
/-- f(e, ..) -/
theorem pe_callG (o : FnG X.prog X.w X.K X.mg X.base cx k f fd ps sp) (hG : X.A.guards = some []) (hr : Room k X.A)
    (hg : Gl X x) (hm : X.mg x = some (.ref f)) (hk : PySem.W.keepIn X.K (.ref f) = true) (hb : Binds X.K fd ps ds)
    (hd : Vals dvs ds) (hx : Passes cx X E) (ha : PA X (e :: es) t) (hdb : (x == ("__debug__" : Str)) = false := by decide)
    (he : starEach (e :: es) X.env = (false, eval e X.env) :: starEach es X.env := by rfl)
    (hpl : (backTo pos (starEach es X.env)).any (·.1) = false := by rfl) :
    PE X (.Call (.Name x p) (e :: es) [] pos) (tCall sp dvs E t) := by
  constructor
  intro pins s σ H Q I h
  refine wpAny_Call_Name_kw (ld_glob I hg hm ?_ hdb)
  refine PySem.W.callWith_K (h₀ := X.base) I.ok.mod.kin hk (thn (ha.run pos pins s σ H _ I h) ?_) he hpl
  rintro us s1 ⟨vs, H1, I1, r, q⟩
  exact ⟨I1.kIn, go_fn o hG hr hb hd hx I1 r q⟩
/-- f() -/
theorem pe_callG0 (o : FnG X.prog X.w X.K X.mg X.base cx k f fd ps sp) (hG : X.A.guards = some []) (hr : Room k X.A)
    (hg : Gl X x) (hm : X.mg x = some (.ref f)) (hk : PySem.W.keepIn X.K (.ref f) = true) (hb : Binds X.K fd ps ds)
    (hd : Vals dvs ds) (hx : Passes cx X E) (hdb : (x == ("__debug__" : Str)) = false := by decide) :
    PE X (.Call (.Name x p) [] [] pos) (tCall sp dvs E tNil) := by
  constructor
  intro pins s σ H Q I h
  refine wpAny_Call_Name_kw (ld_glob I hg hm ?_ hdb)
  exact PySem.W.callWith_K0 I.kIn hk (go_fn (us := []) o hG hr hb hd hx I .nil h)
end

/-- a def by its body, where nothing is being shown -/
theorem fnG_of {cx : CXT} {P : Program} {w : World} {K : PySem.W.Frag} {mg : Str → Option Value} {base : Heap} {k : Nat} {f : Addr}
    {name qual : Str} {params : Arguments} {body : List Stmt} {sc : Scope} {dV kV doc pm cdv ct oc : Value} {an od : Option Addr}
    {osl : Array (Option Value)} {N ps : List Str} {sp : Sp}
    (lk : K.lookup f = some ⟨oc, od, .func (PySem.W.fnOf name qual params body sc dV kV doc pm an cdv ct), osl⟩)
    (hcd : PySem.W.codeIn K cdv qual = true) (S : FnScope N ps sc) (many : ∀ vs H Q E, sp vs H Q E → vs.length = ps.length)
    (hb : ∀ (A : Around) (out : List Env) (s : Shared) (H : Hp) (vs : List V) (Q : VK) (E : XK), A.guards = some [] →
      Room k (A.deeper (envOfC qual sc s.heap.objs.size f cdv)) → sp vs H Q E →
      ∃ t, PSs (cxOf cx P w K mg base N qual sc f cdv A out s H E) body t ∧ t { nx := fun _ H' => Q .non H', rt := Q } (start N vs) H) :
    FnG P w K mg base cx (k + 1) f (PySem.W.fnOf name qual params body sc dV kV doc pm an cdv ct) ps sp := by
  refine ⟨many, ?_⟩
  intro A out s H args us vs Q E hG hr e0 hbi r hsp
  have hl := many _ _ _ _ hsp
  have KX : K.In s.heap := e0.mod.kin.keeps fun b o e => (e0.bs b o e).1
  have lim : s.heap.NoLimit := e0.mod.nolimit.keeps fun b o e => (e0.bs b o e).1
  have hk : ∀ y ∈ ps.zip us, sc.names.lookup y.1 = some .local ∨
      (sc.names.lookup y.1 = some .cell ∧ ((cellsFrom (s.heap.objs.size + 1) sc.names []).lookup y.1).isSome = true) := by
    rintro ⟨n, v⟩ hy
    rcases S.par n (List.of_mem_zip hy).1 with q | q
    · exact .inl q
    · exact .inr ⟨q, PySem.W.cellsFrom_some _ _ _ (.inl q)⟩
  refine codeAny_call_function hr.depth (KX _ _ lk) rfl S.co S.gen rfl (PySem.W.codeRec_of KX hcd) (hbi _ _ _ _ ?_)
  refine wpAny_newFunctionEnv_cells S.kind hk fun env he s1 x => ?_
  subst he
  refine ⟨lim.keeps x.toInCall.keep, codeAny_func ?_⟩
  obtain ⟨t, ht, hq⟩ := hb A out s H vs Q E hG (hr.deeper _) hsp
  have I : Inv (cxOf cx P w K mg base N qual sc f cdv A out s H E) [] (start N vs) H s1 := inv_start S hr.hd e0 hl r x
  refine wpAny_mono (ht.run [] s1 (start N vs) H _ I hq) ?_ fun e s' hs => hs
  have fin : ∀ {σ' : L2.St} {H' : Hp} {v : V} {u : Value} {s' : Shared},
      Inv (cxOf cx P w K mg base N qual sc f cdv A out s H E) [] σ' H' s' → RelV v u → Q v H' → CE out P w H s Q u s' :=
    fun {_ H' v _ _} J rv q => ⟨v, H', J.os, J.bare, J.base, J.hok, rv, q⟩
  intro fl s' hs
  match fl, hs with
  | .ret u, ⟨v, σ', H', J, rv, q⟩ => exact fin J rv q
  | .next, ⟨σ', H', J, q⟩ => exact fin (v := V.non) (u := Value.none) J rfl q
  | .brk, ⟨_, _, _, q⟩ => exact q.elim
  | .cont, ⟨_, _, _, q⟩ => exact q.elim
theorem Fun.okG {P : Program} {w : World} {K : PySem.W.Frag} {mg : Str → Option Value} {base : Heap} {x qual : Str} {st : Stmt} {f : Addr}
    {fd : FuncData} {N ps : List Str} {k : Nat} {sp : Sp} (F : Fun K x qual st f fd) (S : FnScope N ps (defScope st))
    (many : ∀ vs H Q E, sp vs H Q E → vs.length = ps.length)
    (hb : ∀ (cdv : Value) (A : Around) (out : List Env) (s : Shared) (H : Hp) (vs : List V) (Q : VK) (E : XK), A.guards = some [] →
      Room k (A.deeper (envOfC qual (defScope st) s.heap.objs.size f cdv)) → sp vs H Q E →
      ∃ t, PSs (cxOf (L2.CX P w) P w K mg base N qual (defScope st) f cdv A out s H E) (defBody st) t ∧
        t { nx := fun _ H' => Q .non H', rt := Q } (start N vs) H) : FnG P w K mg base (L2.CX P w) (k + 1) f fd ps sp := by
  obtain ⟨oc, od, kV, doc, pm, an, cdv, ct, osl, rfl, lk, hcd⟩ := F.ex
  exact fnG_of lk hcd S many fun A out s H vs Q E g hr h => hb cdv A out s H vs Q E g hr h

end Sd

/-! SdB: how heaps go on, repr of data, rules for operands of several kinds -/
namespace Sd
open PySem PySem.Spec PyProof.Rows L2

/-! ### how the tracked heap goes on -/
/-- what nothing changes -/
def Fix : HO → Bool
  | .tup _ | .ins _ _ _ | .own _ | .frz _ _ | .rng _ _ | .met _ _ => true
  | _ => false
/-- from H to H' nothing but lists and dicts among M has changed -/
structure Go (M : List Addr) (H H' : Hp) : Prop where
  old : ∀ b o, b ∉ M → H b = some o → H' b = some o
  fix : ∀ b o, Fix o = true → H b = some o → H' b = some o
theorem Go.refl (M : List Addr) (H : Hp) : Go M H H := ⟨fun _ _ _ h => h, fun _ _ _ h => h⟩
theorem Go.trans {M : List Addr} {H H1 H2 : Hp} (a : Go M H H1) (b : Go M H1 H2) : Go M H H2 :=
  ⟨fun c o n h => b.old c o n (a.old c o n h), fun c o n h => b.fix c o n (a.fix c o n h)⟩
theorem Go.mono {M N : List Addr} {H H' : Hp} (a : Go M H H') (h : ∀ b ∈ M, b ∈ N) : Go N H H' :=
  ⟨fun c o n => a.old c o fun z => n (h c z), a.fix⟩
theorem Go.wide {M : List Addr} {H H' : Hp} (a : Go [] H H') : Go M H H' := a.mono fun _ h => nomatch h
theorem Go.new {M : List Addr} {H : Hp} {p : Addr} {o : HO} (h : H p = none) : Go M H (upd H p o) :=
  ⟨fun b u _ e => by rw [upd_ne (ne_of_none e h)]; exact e, fun b u _ e => by rw [upd_ne (ne_of_none e h)]; exact e⟩
theorem Go.put {M : List Addr} {H : Hp} {p : Addr} {o u : HO} (h : H p = some u) (hf : Fix u = false) (hp : p ∈ M) : Go M H (upd H p o) :=
  ⟨fun b v n e => by rw [upd_ne fun z => n (by rw [z]; exact hp)]; exact e, fun b v f e => by
    rw [upd_ne fun z => ?_]
    · exact e
    · subst z; rw [h] at e; cases e; rw [hf] at f; cases f⟩
theorem Go.free {M : List Addr} {H H' : Hp} (g : Go M H H') {p : Addr} (hm : p ∉ M) (h : H' p = none) : H p = none := by
  cases e : H p with
  | none => rfl
  | some o => rw [g.old p o hm e] at h; cases h
theorem Go.same {H H' : Hp} (g : Go [] H H') : Same H H' := fun b o e => g.old b o (fun z => nomatch z) e
theorem Go.ofSame {H H' : Hp} (g : Same H H') : Go [] H H' := ⟨fun b o _ e => g b o e, fun b o _ e => g b o e⟩
/-- a change of what was not there -/
theorem Go.mut {M : List Addr} {H H' : Hp} {p : Addr} {o : HO} (g : Go M H H') (h : H p = none) : Go M H (upd H' p o) :=
  ⟨fun b u n e => by rw [upd_ne (ne_of_none e h)]; exact g.old b u n e, fun b u n e => by rw [upd_ne (ne_of_none e h)]; exact g.fix b u n e⟩
theorem Go.sqT {K : PySem.W.Frag} {M : List Addr} {H H' : Hp} {a : Addr} {xs : List V} (g : Go M H H') (h : SqT K H a xs) : SqT K H' a xs := by
  rcases h with (h | ⟨o, h⟩) | h
  · exact .inl (.inl (g.fix _ _ rfl h))
  · exact .inl (.inr ⟨o, g.fix _ _ rfl h⟩)
  · exact .inr h
theorem Go.sqL {K : PySem.W.Frag} {H H' : Hp} {a : Addr} {xs : List V} (g : Go [] H H') (h : SqL K H a xs) : SqL K H' a xs := g.same.seq h

/-! ### data of tuples alone -/
mutual
def imm : PyData → Bool
  | .none | .bool _ | .int _ | .str _ => true
  | .tuple ds => immAll ds
  | .list _ | .dict _ => false
def immAll : List PyData → Bool
  | [] => true
  | d :: ds => imm d && immAll ds
end
mutual
theorem Dp.go' {K : PySem.W.Frag} {M : List Addr} {H H' : Hp} (g : Go M H H') : ∀ (d : PyData) (v : V), Dp K H v d → imm d = true → Dp K H' v d
  | .none, _, h, _ => by cases h; exact .non
  | .bool b, _, h, _ => by cases h; exact .bl b
  | .int i, _, h, _ => by cases h; exact .int i
  | .str x, _, h, _ => by cases h; exact .str x
  | .tuple ds, _, h, i => by
    cases h with
    | tup h a => exact .tup (g.sqT h) (DpAll.go' g ds _ a (by simpa only [imm] using i))
  | .list _, _, _, i => by simp [imm] at i
  | .dict _, _, h, _ => by cases h
theorem DpAll.go' {K : PySem.W.Frag} {M : List Addr} {H H' : Hp} (g : Go M H H') : ∀ (ds : List PyData) (vs : List V), DpAll K H vs ds → immAll ds = true → DpAll K H' vs ds
  | [], _, h, _ => by cases h; exact .nil
  | d :: ds, _, h, i => by
    cases h with
    | cons h t =>
      simp only [immAll, Bool.and_eq_true] at i
      exact .cons (Dp.go' g d _ h i.1) (DpAll.go' g ds _ t i.2)
end
mutual
theorem Dp.go0' {K : PySem.W.Frag} {H H' : Hp} (g : Go [] H H') : ∀ (d : PyData) (v : V), Dp K H v d → Dp K H' v d
  | .none, _, h => by cases h; exact .non
  | .bool b, _, h => by cases h; exact .bl b
  | .int i, _, h => by cases h; exact .int i
  | .str x, _, h => by cases h; exact .str x
  | .tuple ds, _, h => by
    cases h with
    | tup h a => exact .tup (g.sqT h) (DpAll.go0' g ds _ a)
  | .list ds, _, h => by
    cases h with
    | lst h a => exact .lst (g.sqL h) (DpAll.go0' g ds _ a)
  | .dict _, _, h => by cases h
theorem DpAll.go0' {K : PySem.W.Frag} {H H' : Hp} (g : Go [] H H') : ∀ (ds : List PyData) (vs : List V), DpAll K H vs ds → DpAll K H' vs ds
  | [], _, h => by cases h; exact .nil
  | d :: ds, _, h => by
    cases h with
    | cons h t => exact .cons (Dp.go0' g d _ h) (DpAll.go0' g ds _ t)
end
theorem Dp.go {K : PySem.W.Frag} {M : List Addr} {H H' : Hp} (g : Go M H H') {v : V} {d : PyData} (h : Dp K H v d) (i : imm d = true) : Dp K H' v d := Dp.go' g d v h i
theorem DpAll.go {K : PySem.W.Frag} {M : List Addr} {H H' : Hp} (g : Go M H H') {v : List V} {d : List PyData} (h : DpAll K H v d) (i : immAll d = true) : DpAll K H' v d := DpAll.go' g d v h i
theorem Dp.go0 {K : PySem.W.Frag} {H H' : Hp} (g : Go [] H H') {v : V} {d : PyData} (h : Dp K H v d) : Dp K H' v d := Dp.go0' g d v h
theorem DpAll.go0 {K : PySem.W.Frag} {H H' : Hp} (g : Go [] H H') {v : List V} {d : List PyData} (h : DpAll K H v d) : DpAll K H' v d := DpAll.go0' g d v h
theorem DpAll.len {K : PySem.W.Frag} {H : Hp} : ∀ {vs : List V} {ds : List PyData}, DpAll K H vs ds → vs.length = ds.length
  | [], _, h => by cases h; rfl
  | v :: vs, _, h => by
    cases h with
    | cons h t => exact congrArg (· + 1) (DpAll.len (vs := vs) t)
theorem DpAll.at {K : PySem.W.Frag} {H : Hp} : ∀ {vs : List V} {ds : List PyData} {i : Nat} {v : V}, DpAll K H vs ds → vs[i]? = some v → ∃ d, ds[i]? = some d ∧ Dp K H v d
  | [], _, _, _, _, e => by simp at e
  | w :: vs, _, i, v, h, e => by
    cases h with
    | cons h t =>
      cases i with
      | zero =>
        simp at e
        subst e
        exact ⟨_, rfl, h⟩
      | succ i =>
        obtain ⟨d, h1, h2⟩ := DpAll.at (vs := vs) (i := i) t (by simpa using e)
        exact ⟨d, by simpa using h1, h2⟩
theorem DpAll.atD {K : PySem.W.Frag} {H : Hp} : ∀ {vs : List V} {ds : List PyData} {i : Nat} {d : PyData}, DpAll K H vs ds → ds[i]? = some d → ∃ v, vs[i]? = some v ∧ Dp K H v d
  | [], _, _, _, h, e => by
    cases h
    simp at e
  | w :: vs, _, i, d, h, e => by
    cases h with
    | cons h t =>
      cases i with
      | zero =>
        simp at e
        subst e
        exact ⟨_, rfl, h⟩
      | succ i =>
        obtain ⟨d, h1, h2⟩ := DpAll.atD (vs := vs) (i := i) t (by simpa using e)
        exact ⟨d, by simpa using h1, h2⟩
theorem DpAll.app {K : PySem.W.Frag} {H : Hp} : ∀ {vs ws : List V} {ds es : List PyData}, DpAll K H vs ds → DpAll K H ws es → DpAll K H (vs ++ ws) (ds ++ es)
  | [], _, _, _, h, s => by cases h; exact s
  | v :: vs, _, _, _, h, s => by
    cases h with
    | cons h t => exact .cons h (DpAll.app (vs := vs) t s)
theorem DpAll.strs {K : PySem.W.Frag} {H : Hp} : ∀ (ss : List Str), DpAll K H (ss.map V.str) (ss.map PyData.str)
  | [] => .nil
  | s :: ss => .cons (.str s) (DpAll.strs ss)
theorem DpAll.ints {K : PySem.W.Frag} {H : Hp} : ∀ (ss : List Int), DpAll K H (ss.map V.int) (ss.map PyData.int)
  | [] => .nil
  | s :: ss => .cons (.int s) (DpAll.ints ss)
theorem DpAll.strs_inv {K : PySem.W.Frag} {H : Hp} : ∀ {ss : List Str} {vs : List V}, DpAll K H vs (ss.map PyData.str) → vs = ss.map V.str
  | [], _, h => by cases h; rfl
  | s :: ss, _, h => by
    cases h with
    | cons h t =>
      cases h
      rw [DpAll.strs_inv t]
      rfl
theorem DpAll.ints_inv {K : PySem.W.Frag} {H : Hp} : ∀ {ss : List Int} {vs : List V}, DpAll K H vs (ss.map PyData.int) → vs = ss.map V.int
  | [], _, h => by cases h; rfl
  | s :: ss, _, h => by
    cases h with
    | cons h t =>
      cases h
      rw [DpAll.ints_inv t]
      rfl
theorem dp_tup {K : PySem.W.Frag} {H : Hp} {p : Addr} {xs : List V} {ds : List PyData} (h : H p = some (.tup xs)) (a : DpAll K H xs ds) : Dp K H (.ref p) (.tuple ds) := .tup (SqT.of h) a
theorem imm_strs : ∀ ss : List Str, immAll (ss.map PyData.str) = true
  | [] => rfl
  | s :: ss => by simp only [List.map_cons, immAll, imm, imm_strs ss, Bool.and_self]
theorem imm_ints : ∀ ss : List Int, immAll (ss.map PyData.int) = true
  | [] => rfl
  | s :: ss => by simp only [List.map_cons, immAll, imm, imm_ints ss, Bool.and_self]

/-! ### new objects -/
theorem newO {M : List Addr} {H : Hp} {Q : VK} {o : HO} (k : ∀ p H', H p = none → Go M H H' → H' p = some o → Q (.ref p) H') : ∀ p, H p = none → Q (.ref p) (upd H p o) :=
  fun p hp => k p _ hp (Go.new hp) upd_same

/-! ### one expression, several readings -/
section
variable {X : Cx} {e : Expr} {es : List Expr}
theorem PE.or {t u : TE} (h1 : PE X e t) (h2 : PE X e u) : PE X e (fun σ H Q => t σ H Q ∨ u σ H Q) :=
  ⟨fun pins s σ H Q I h => h.elim (h1.run pins s σ H Q I) (h2.run pins s σ H Q I)⟩
theorem OpR.or {f : Value → Value → Sem Value} {r q : R2} (h1 : OpR X f r) (h2 : OpR X f q) : OpR X f (fun x y H Q => r x y H Q ∨ q x y H Q) :=
  fun pins s σ H x y v u Q I rx ry h => h.elim (h1 pins s σ H x y v u Q I rx ry) (h2 pins s σ H x y v u Q I rx ry)
theorem PI.or {tg it : Expr} {t u : TI} (h1 : PI X tg it t) (h2 : PI X tg it u) : PI X tg it (fun σ H R => t σ H R ∨ u σ H R) :=
  ⟨fun pins s σ H R I h => h.elim (h1.run pins s σ H R I) (h2.run pins s σ H R I)⟩
theorem CallR.or {f : Value} {r q : List V → Hp → VK → Prop} (h1 : CallR X f r) (h2 : CallR X f q) : CallR X f (fun xs H Q => r xs H Q ∨ q xs H Q) :=
  fun pins s σ H xs us Q I rx h => h.elim (h1 pins s σ H xs us Q I rx) (h2 pins s σ H xs us Q I rx)
end

/-! ### repr of data -/
def rRepr (K : PySem.W.Frag) (A : Around) : List V → Hp → VK → Prop := fun xs H Q => ∃ v d, xs = [v] ∧ Dp K H v d ∧ d.showable = true ∧ d.shown.length ≤ sizeLine ∧
  A.units + (d.depth + 1) < cLine ∧ Q (.str d.shown) H
mutual
theorem dp_nodict {K : PySem.W.Frag} {H : Hp} : ∀ (d : PyData) (v : V), Dp K H v d → d.hasDict = false
  | .none, _, h => by simp only [PyData.hasDict]
  | .bool _, _, h => by simp only [PyData.hasDict]
  | .int _, _, h => by simp only [PyData.hasDict]
  | .str _, _, h => by simp only [PyData.hasDict]
  | .tuple ds, _, h => by
    cases h with
    | tup h a => simp only [PyData.hasDict]; exact dpAll_nodict ds _ a
  | .list ds, _, h => by
    cases h with
    | lst h a => simp only [PyData.hasDict]; exact dpAll_nodict ds _ a
  | .dict _, _, h => by cases h
theorem dpAll_nodict {K : PySem.W.Frag} {H : Hp} : ∀ (ds : List PyData) (vs : List V), DpAll K H vs ds → PyData.hasDictAll ds = false
  | [], _, _ => by simp only [PyData.hasDictAll]
  | d :: ds, _, h => by
    cases h with
    | cons h t => simp only [PyData.hasDictAll, dp_nodict d _ h, dpAll_nodict ds _ t, Bool.or_self]
end
theorem call_reprD {X : Cx} (hG : X.A.guards = some []) : CallR X (.builtin "repr") (rRepr X.K X.A) := by
  intro pins s σ H xs us Q I r h
  obtain ⟨v, d, rfl, hd, hs, hz, hu, q⟩ := h
  obtain ⟨u, rfl, rx⟩ := vals1 r
  obtain ⟨as, rd⟩ := Dp.reads I d v u hd rx
  have nd := dp_nodict d v hd
  cases hd with
  | non =>
    cases rx
    refine PySem.P.repr_of_none ⟨.str _, H, I.tok _, ⟨_, rfl⟩, ?_⟩
    exact q
  | bl b =>
    cases rx
    refine PySem.P.repr_of_bool ⟨.str _, H, I.tok _, ⟨_, rfl⟩, ?_⟩
    exact q
  | int i =>
    obtain ⟨t, rfl⟩ := rx
    refine PySem.P.repr_of_int (by simpa [PyData.showable] using hs) ⟨.str _, H, I.tok _, ⟨_, rfl⟩, ?_⟩
    exact q
  | str x =>
    obtain ⟨t, rfl⟩ := rx
    refine PySem.P.repr_of_str ⟨.str _, H, I.tok _, ⟨_, rfl⟩, ?_⟩ hz
    exact q
  | lst h a =>
    cases rx
    exact repr_of_reads' rd hs (fun e => by rw [nd] at e; cases e) hG hu (fun _ _ e => e) (fun h' u tk kp => ⟨.str _, H, I.kept (t' := tk) kp, ⟨_, rfl⟩, q⟩) hz
  | tup h a =>
    cases rx
    exact repr_of_reads' rd hs (fun e => by rw [nd] at e; cases e) hG hu (fun _ _ e => e) (fun h' u tk kp => ⟨.str _, H, I.kept (t' := tk) kp, ⟨_, rfl⟩, q⟩) hz
end Sd

/-! SdC: defs by their names; rules for operands of several kinds -/
namespace Sd
open PySem PySem.Spec PyProof.Rows L2

/-- where a law runs -/
structure Wd where
  P : Program
  w : World
  K : PySem.W.Frag
  mg : Str → Option Value
  base : Heap

/-- a def as the top left it -/
def At (c : Wd) (x qual : Str) (st : Stmt) (ps : List Str) : Prop :=
  ∃ (f : Addr) (fd : FuncData), c.mg x = some (.ref f) ∧ Fun c.K x qual st f fd ∧ Binds c.K fd ps []
/-- a def that keeps its promise; .. where nothing is being shown -/
def Ok (c : Wd) (x : Str) (k : Nat) (ps : List Str) (sp : Sp) : Prop :=
  ∃ (f : Addr) (fd : FuncData), c.mg x = some (.ref f) ∧ PySem.W.keepIn c.K (.ref f) = true ∧ Binds c.K fd ps [] ∧ FnOk c.P c.w c.K c.mg c.base (L2.CX c.P c.w) k f fd ps sp
def OkG (c : Wd) (x : Str) (k : Nat) (ps : List Str) (sp : Sp) : Prop :=
  ∃ (f : Addr) (fd : FuncData), c.mg x = some (.ref f) ∧ PySem.W.keepIn c.K (.ref f) = true ∧ Binds c.K fd ps [] ∧ FnG c.P c.w c.K c.mg c.base (L2.CX c.P c.w) k f fd ps sp
theorem Ok.g {c : Wd} {x : Str} {k : Nat} {ps : List Str} {sp : Sp} (o : Ok c x k ps sp) : OkG c x k ps sp := by
  obtain ⟨f, fd, h1, h2, h3, h4⟩ := o
  exact ⟨f, fd, h1, h2, h3, .of h4⟩
abbrev cxN (c : Wd) (N : List Str) (qual : Str) (st : Stmt) (f : Addr) (cdv : Value) (A : Around) (out : List Env) (s : Shared) (H : Hp) (E : XK) : Cx :=
  cxOf (L2.CX c.P c.w) c.P c.w c.K c.mg c.base N qual (defScope st) f cdv A out s H E
/-- a def that lets nothing out, by its body -/
theorem Ok.of {c : Wd} {x qual : Str} {st : Stmt} {N ps : List Str} {k : Nat} {sp : Sp} (F : At c x qual st ps) (S : FnScope N ps (defScope st))
    (len : ∀ vs H Q E, sp vs H Q E → vs.length = ps.length)
    (h : ∀ (f : Addr) (cdv : Value) (A : Around) (out : List Env) (s : Shared) (H : Hp) (vs : List V) (Q : VK) (E : XK),
      Room k (A.deeper (envOfC qual (defScope st) s.heap.objs.size f cdv)) → sp vs H Q E →
      ∃ t, PSs (cxN c N qual st f cdv A out s H E).nox (defBody st) t ∧ t { nx := fun _ H' => Q .non H', rt := Q } (start N vs) H) : Ok c x (k + 1) ps sp := by
  obtain ⟨f, fd, h1, h2, h3⟩ := F
  refine ⟨f, fd, h1, h2.kp, h3, h2.okX S len fun cdv A out s H vs Q E hr q => ?_⟩
  obtain ⟨t, a, b⟩ := h f cdv A out s H vs Q E hr q
  exact ⟨t, a.nox, b⟩
/-- .. that may raise -/
theorem Ok.ofX {c : Wd} {x qual : Str} {st : Stmt} {N ps : List Str} {k : Nat} {sp : Sp} (F : At c x qual st ps) (S : FnScope N ps (defScope st))
    (len : ∀ vs H Q E, sp vs H Q E → vs.length = ps.length)
    (h : ∀ (f : Addr) (cdv : Value) (A : Around) (out : List Env) (s : Shared) (H : Hp) (vs : List V) (Q : VK) (E : XK),
      Room k (A.deeper (envOfC qual (defScope st) s.heap.objs.size f cdv)) → sp vs H Q E →
      ∃ t, PSs (cxN c N qual st f cdv A out s H E) (defBody st) t ∧ t { nx := fun _ H' => Q .non H', rt := Q } (start N vs) H) : Ok c x (k + 1) ps sp := by
  obtain ⟨f, fd, h1, h2, h3⟩ := F
  exact ⟨f, fd, h1, h2.kp, h3, h2.okX S len fun cdv A out s H vs Q E hr q => h f cdv A out s H vs Q E hr q⟩
theorem OkG.of {c : Wd} {x qual : Str} {st : Stmt} {N ps : List Str} {k : Nat} {sp : Sp} (F : At c x qual st ps) (S : FnScope N ps (defScope st))
    (len : ∀ vs H Q E, sp vs H Q E → vs.length = ps.length)
    (h : ∀ (f : Addr) (cdv : Value) (A : Around) (out : List Env) (s : Shared) (H : Hp) (vs : List V) (Q : VK) (E : XK), A.guards = some [] →
      Room k (A.deeper (envOfC qual (defScope st) s.heap.objs.size f cdv)) → sp vs H Q E →
      ∃ t, PSs (cxN c N qual st f cdv A out s H E).nox (defBody st) t ∧ t { nx := fun _ H' => Q .non H', rt := Q } (start N vs) H) : OkG c x (k + 1) ps sp := by
  obtain ⟨f, fd, h1, h2, h3⟩ := F
  refine ⟨f, fd, h1, h2.kp, h3, Fun.okG h2 S len fun cdv A out s H vs Q E hG hr q => ?_⟩
  obtain ⟨t, a, b⟩ := h f cdv A out s H vs Q E hG hr q
  exact ⟨t, a.nox, b⟩

section
variable {X : Cx} {c : Wd} {x : Str} {k : Nat} {ps : List Str} {sp : Sp} {p pos : Pos} {e : Expr} {es : List Expr} {t : TA}
/-- the context is of the law's -/
structure Of (X : Cx) (c : Wd) : Prop where
  P : X.prog = c.P
  w : X.w = c.w
  K : X.K = c.K
  mg : X.mg = c.mg
  base : X.base = c.base
theorem pe_f (D : Ok c x k ps sp) (hr : Room k X.A) (hg : Gl X x) (ha : PA X (e :: es) t) (hc : Of X c := by exact ⟨rfl, rfl, rfl, rfl, rfl⟩)
    (hdb : (x == ("__debug__" : Str)) = false := by decide) (he : starEach (e :: es) X.env = (false, eval e X.env) :: starEach es X.env := by rfl)
    (hpl : (backTo pos (starEach es X.env)).any (·.1) = false := by rfl) : PE X (.Call (.Name x p) (e :: es) [] pos) (tCall sp [] E0 t) := by
  obtain ⟨f, fd, h1, h2, h3, h4⟩ := D
  obtain ⟨c1, c2, c3, c4, c5⟩ := hc
  subst_vars
  obtain ⟨P, w, K, mg, base⟩ := c
  dsimp only at c1 c2 c3 c4 c5
  subst c1 c2 c3 c4 c5
  exact pe_call h4 hr hg h1 h2 h3 .nil passL ha hdb he hpl
theorem pe_fG (D : OkG c x k ps sp) (hG : X.A.guards = some []) (hr : Room k X.A) (hg : Gl X x) (ha : PA X (e :: es) t) (hc : Of X c := by exact ⟨rfl, rfl, rfl, rfl, rfl⟩)
    (hdb : (x == ("__debug__" : Str)) = false := by decide) (he : starEach (e :: es) X.env = (false, eval e X.env) :: starEach es X.env := by rfl)
    (hpl : (backTo pos (starEach es X.env)).any (·.1) = false := by rfl) : PE X (.Call (.Name x p) (e :: es) [] pos) (tCall sp [] E0 t) := by
  obtain ⟨f, fd, h1, h2, h3, h4⟩ := D
  obtain ⟨c1, c2, c3, c4, c5⟩ := hc
  obtain ⟨P, w, K, mg, base⟩ := c
  dsimp only at c1 c2 c3 c4 c5
  subst c1 c2 c3 c4 c5
  exact pe_callG h4 hG hr hg h1 h2 h3 .nil passL ha hdb he hpl
end

theorem _root_.L2.Room.u5 {k : Nat} {A : Around} (r : Room k A) : A.units + 65 < cLine := by have := r.un; omega
/-! ### operands of several kinds -/
section
variable {X : Cx}
def rAddU (K : PySem.W.Frag) : R2 := fun x y H Q => ((rI0 fun i j => .int (i + j)) x y H Q ∨ (∃ i j, x = .str i ∧ y = .str j ∧ i.length + j.length ≤ sizeLine ∧ Q (.str (i ++ j)) H)) ∨ (rCat x y H Q ∨ rCatA K x y H Q)
variable {K : PySem.W.Frag}
theorem op_addU (hK : X.K = K := by rfl) : OpR X (binaryOp .Add) (rAddU K) := by subst hK; exact OpR.or (OpR.or op_add op_add_str) (OpR.or op_cat op_catA)
def rEqU (K : PySem.W.Frag) : R2 := fun x y H Q => rEq x y H Q ∨ rEqD K x y H Q
theorem op_eqU (hu : X.A.units + 64 < cLine) (hK : X.K = K := by rfl) : OpR X (compareOp .Eq) (rEqU K) := by subst hK; exact OpR.or op_eq (op_eqD hu)
def rNeU (K : PySem.W.Frag) : R2 := fun x y H Q => rNe x y H Q ∨ rNeD K x y H Q
theorem op_neU (hu : X.A.units + 64 < cLine) (hK : X.K = K := by rfl) : OpR X (compareOp .NotEq) (rNeU K) := by subst hK; exact OpR.or op_ne (op_neD hu)
/-- one sign in a text -/
def rSgn (neg : Bool) : R2 := fun x y H Q => ∃ (c : Nat) (z : Str), x = .str ⟨#[c]⟩ ∧ y = .str z ∧ Q (.bl (if neg then !decide (c ∈ z.cps.toList) else decide (c ∈ z.cps.toList))) H
def rInU (K : PySem.W.Frag) : R2 := fun x y H Q => (rIn K false x y H Q ∨ rSgn false x y H Q) ∨ rInD K x y H Q
theorem op_inU (hu : X.A.units + 65 < cLine) (hK : X.K = K := by rfl) : OpR X (compareOp .In) (rInU K) := by subst hK; exact OpR.or (OpR.or op_in_seq op_in_sign) (op_inD hu)
def rNiU (K : PySem.W.Frag) : R2 := fun x y H Q => (rIn K true x y H Q ∨ rSgn true x y H Q) ∨ rNotInD K x y H Q
theorem op_niU (hu : X.A.units + 65 < cLine) (hK : X.K = K := by rfl) : OpR X (compareOp .NotIn) (rNiU K) := by subst hK; exact OpR.or (OpR.or op_notIn_seq op_notIn_sign) (op_notInD hu)
def rLtU : R2 := fun x y H Q => (rI0 fun i j => .bl (decide (i < j))) x y H Q ∨ ∃ i j, x = .str i ∧ y = .str j ∧ Q (.bl (decide (i.cps.toList < j.cps.toList))) H
theorem op_ltU : OpR X (compareOp .Lt) rLtU := OpR.or op_lt op_lt_str
def rGtU : R2 := fun x y H Q => (rI0 fun i j => .bl (decide (j < i))) x y H Q ∨ ∃ i j, x = .str i ∧ y = .str j ∧ Q (.bl (decide (j.cps.toList < i.cps.toList))) H
theorem op_gtU : OpR X (compareOp .Gt) rGtU := OpR.or op_gt op_gt_str
def rMulU : R2 := fun x y H Q => (rI CMulW fun i j => .int (i * j)) x y H Q ∨ rRep x y H Q
theorem op_mulU : OpR X (binaryOp .Mult) rMulU := OpR.or op_mulW op_rep
def tIx (K : PySem.W.Frag) (ta tb : TE) : TE := fun σ H Q => tOp (rIx K) ta tb σ H Q ∨ tDGet ta tb σ H Q
theorem pe_ixU {a b : Expr} {ta tb : TE} {pos : Pos} (hu : X.A.units + 1 < cLine) (ha : PE X a ta) (hb : PE X b tb) (hs : PlainIx b) (hs' : NoSl b) (hK : X.K = K := by rfl) : PE X (.Subscript a b pos) (tIx K ta tb) := by
  subst hK
  exact PE.or (pe_ix ix_seq ha hb hs) (pe_dget hu ha hb hs')
def rSlU (K : PySem.W.Frag) : V → Option Int → Option Int → Hp → VK → Prop := fun x lo hi H Q => (rSlL K x lo hi H Q ∨ rSlA K x lo hi H Q) ∨ rSlS x lo hi H Q
theorem sl_U (hK : X.K = K := by rfl) : SlR X (rSlU K) := by subst hK; exact SlR.or (SlR.or sl_list sl_tupA) sl_str
def rLenU (K : PySem.W.Frag) : List V → Hp → VK → Prop := fun xs H Q => (∃ x n, xs = [x] ∧ LenV K x H n ∧ Q (.int n) H)
theorem call_lenU (hK : X.K = K := by rfl) : CallR X (.builtin "len") (rLenU K) := by subst hK; exact call_len
def iSeq (K : PySem.W.Frag) (te : TE) : TI := fun σ H R => (iList K te σ H R ∨ iTup K te σ H R) ∨ iStr te σ H R
theorem pi_seq {tg e : Expr} {te : TE} (h : PE X e te) (hK : X.K = K := by rfl) : PI X tg e (iSeq K te) := by subst hK; exact PI.or (PI.or (pi_list h) (pi_tup h)) (pi_str h)
theorem call_isiU (hK : X.K = K := by rfl) : CallR X (.builtin "isinstance") (rIsi K) := by subst hK; exact call_isi
theorem call_allU (hc : X.calm = true) (hK : X.K = K := by rfl) : CallR X (.builtin "all") (rAll K) := by subst hK; exact cr_all hc
theorem call_anyU (hc : X.calm = true) (hK : X.K = K := by rfl) : CallR X (.builtin "any") (rAny K) := by subst hK; exact cr_any hc
theorem call_sumU (hc : X.calm = true) (hK : X.K = K := by rfl) : CallR X (.builtin "sum") (rSum K) := by subst hK; exact cr_sum hc
theorem call_sortU (hK : X.K = K := by rfl) : CallR X (.builtin "sorted") (rSortedS K) := by subst hK; exact cr_sortedS
def rLstU (K : PySem.W.Frag) : List V → Hp → VK → Prop := fun xs H Q => ∃ p ys, xs = [.ref p] ∧ (SqL K H p ys ∨ SqT K H p ys) ∧ ∀ l, H l = none → Q (.ref l) (upd H l (.lst ys))
theorem call_lstU (hK : X.K = K := by rfl) : CallR X (.type "list") (rLstU K) := by subst hK; exact call_list_of
def rTupU (K : PySem.W.Frag) : List V → Hp → VK → Prop := fun xs H Q => ∃ p ys, xs = [.ref p] ∧ ((SqL K H p ys ∧ ∀ l, H l = none → Q (.ref l) (upd H l (.tup ys))) ∨ (SqT K H p ys ∧ Q (.ref p) H))
theorem call_tupU (hK : X.K = K := by rfl) : CallR X (.type "tuple") (rTupU K) := by subst hK; exact call_tuple_of
def rIntU : List V → Hp → VK → Prop := fun xs H Q => (∃ i, xs = [.int i] ∧ Q (.int i) H) ∨ ∃ k, xs = [.bl k] ∧ Q (.int (if k then 1 else 0)) H
theorem call_intU : CallR X (.type "int") rIntU := call_int1
def rAbsU : List V → Hp → VK → Prop := fun xs H Q => ∃ i, xs = [.int i] ∧ Q (.int (if i < 0 then -i else i)) H
theorem call_absU : CallR X (.builtin "abs") rAbsU := call_abs
theorem call_reprU (hG : X.A.guards = some []) {A : Around} (hK : X.K = K := by rfl) (hA : X.A = A := by rfl) : CallR X (.builtin "repr") (rRepr K A) := by subst hK hA; exact call_reprD hG
theorem pi_zipU {p pos tpos : Pos} {e e2 : Expr} {ta : TA} {elts : List Expr} {kk : Nat} (hg : Gl X "zip") (hm : X.mg "zip" = none) (ha : PA X [e, e2] ta) (hK : X.K = K := by rfl)
    (hs : starEach [e, e2] X.env = (false, eval e X.env) :: starEach [e2] X.env := by rfl) (hpl : (backTo pos (starEach [e2] X.env)).any (·.1) = false := by rfl) :
    PI X (.Tuple elts kk tpos) (.Call (.Name "zip" p) [e, e2] [] pos) (RZ.iZipA K ta) := by
  subst hK
  exact RZ.pi_zipA hg hm ha hs hpl
theorem pg_tupU {es : List Expr} {k : Nat} {t : TGs} {n : Nat} {pos : Pos} (hc : X.calm = true) (h : PGs X es t) (hK : X.K = K := by rfl)
    (hn : (assignEach es X.env).length = n := by rfl) (hst : (assignEach es X.env).findIdx? (·.1) = none := by rfl) : PG X (.Tuple es k pos) (gTup K n t) := by
  subst hK
  exact pg_tup hc h hn hst
end
end Sd

/-! SdD: constants, classes, numbers of any size; steps of a reading -/
namespace Sd
open PySem PySem.Spec PyProof.Rows L2

section
variable {X : Cx}
theorem pe_gi {x : Str} {i : Int} {pos : Pos} (h : ∃ t, X.mg x = some (.int i t)) (hg : Gl X x := by rfl) (hd : (x == ("__debug__" : Str)) = false := by decide) : PE X (.Name x pos) (tC (.int i)) := by
  obtain ⟨t, h⟩ := h
  exact pe_glob hg h ⟨t, rfl⟩ hd
theorem pe_gs {x : Str} {i : Str} {pos : Pos} (h : ∃ t, X.mg x = some (.str i t)) (hg : Gl X x := by rfl) (hd : (x == ("__debug__" : Str)) = false := by decide) : PE X (.Name x pos) (tC (.str i)) := by
  obtain ⟨t, h⟩ := h
  exact pe_glob hg h ⟨t, rfl⟩ hd
theorem pe_ty (x : Str) (T : String) {pos : Pos} (hg : Gl X x) (hm : X.mg x = none) (hv : bootBuiltins x = some (.type T)) (hn : x ≠ "__name__" := by decide) (hd : (x == ("__debug__" : Str)) = false := by decide) : PE X (.Name x pos) (tC (.ty T)) := pe_bltn hg hm hv rfl hn hd
/-- a ** b, together not above 2 ^ 27 bits -/
def CPowW (i j : Int) : Prop := 0 ≤ j ∧ (Builtin.Int.intBits i : Int) * j ≤ 2 ^ 27
def rPowU : R2 := rI CPowW fun i j => .int (i ^ j.toNat)
def rModU : R2 := rI (fun _ j => 0 < j) fun i j => .int (i % j)
def rFdU : R2 := rI CDivN fun i j => .int (i.fdiv j)
def rSubU : R2 := rI0 fun i j => .int (i - j)
theorem op_modU : OpR X (binaryOp .Mod) rModU := op_mod
theorem op_fdU : OpR X (binaryOp .FloorDiv) rFdU := op_fdivN
theorem op_subU : OpR X (binaryOp .Sub) rSubU := op_sub
theorem op_powU : OpR X (binaryOp .Pow) rPowU := by
  intro pins s σ H x y v u Q I rx ry h
  obtain ⟨i, j, rfl, rfl, hc, q⟩ := h
  obtain ⟨t, rfl⟩ := rx
  obtain ⟨t', rfl⟩ := ry
  exact pow_int hc.1 hc.2 ⟨.int _, H, I.tok _, ⟨_, rfl⟩, q⟩
end

/-! ### steps of a reading -/
section
variable {σ : L2.St} {H : Hp} {Q : VK} {K : PySem.W.Frag}
theorem r_c {v : V} (q : Q v H) : tC v σ H Q := q
theorem r_nil {Q : List V → Hp → Prop} (q : Q [] H) : tNil σ H Q := q
theorem r_ix {r : R2} {x y : V} (h : r x y H Q) : r x y H Q := h
theorem ixL {p : Addr} {xs : List V} {i : Nat} {v : V} (h : H p = some (.lst xs)) (hi : xs[i]? = some v) (q : Q v H) : rIx K (.ref p) (.int (i : Int)) H Q :=
  .inl ⟨p, xs, _, v, rfl, rfl, SqL.of h, atI_nat hi, q⟩
theorem ixT {p : Addr} {xs : List V} {i : Nat} {v : V} (h : SqT K H p xs) (hi : xs[i]? = some v) (q : Q v H) : rIx K (.ref p) (.int (i : Int)) H Q :=
  .inr (.inl ⟨p, xs, _, v, rfl, rfl, h, atI_nat hi, q⟩)
theorem r_addI {i j : Int} (q : Q (.int (i + j)) H) : rAddU K (.int i) (.int j) H Q := .inl (.inl ⟨i, j, rfl, rfl, q⟩)
theorem r_gtI {i j : Int} (q : Q (.bl (decide (j < i))) H) : rGtU (.int i) (.int j) H Q := .inl ⟨i, j, rfl, rfl, q⟩
theorem r_ltI {i j : Int} (q : Q (.bl (decide (i < j))) H) : rLtU (.int i) (.int j) H Q := .inl ⟨i, j, rfl, rfl, q⟩
theorem r_mulI {i j : Int} (h : CMulW i j) (q : Q (.int (i * j)) H) : rMulU (.int i) (.int j) H Q := .inl ⟨i, j, rfl, rfl, h, q⟩
theorem r_mod {i j : Int} (h : 0 < j) (q : ∀ m : Int, 0 ≤ m → m < j → m = i % j → Q (.int m) H) : rModU (.int i) (.int j) H Q :=
  ⟨i, j, rfl, rfl, h, q _ (Int.emod_nonneg i (by omega)) (Int.emod_lt_of_pos i h) rfl⟩
theorem r_subI {i j : Int} (q : Q (.int (i - j)) H) : rSubU (.int i) (.int j) H Q := ⟨i, j, rfl, rfl, q⟩
theorem r_pow {i j : Int} (h : CPowW i j) (q : ∀ m : Int, m = i ^ j.toNat → Q (.int m) H) : rPowU (.int i) (.int j) H Q := ⟨i, j, rfl, rfl, h, q _ rfl⟩
theorem r_fdiv {i j : Int} (h0 : 0 < j) (h : j < 1073741824) (q : ∀ m : Int, m = i / j → Q (.int m) H) : rFdU (.int i) (.int j) H Q :=
  ⟨i, j, rfl, rfl, ⟨by omega, by omega⟩, by show Q (.int (i.fdiv j)) H; rw [Int.fdiv_eq_ediv_of_nonneg i (by omega)]; exact q _ rfl⟩
end
end Sd

/-! SdE: comprehensions whose turns leave what they have met -/
namespace Sd
open PySem PySem.Spec PyProof.Rows L2

/-- what a turn gives leaves the heap, or lays a new tuple -/
def Yk (Y : Nat → Hp → V → Hp → Prop) : Prop := ∀ i H x H', Y i H x H' → Go [] H H'
theorem yk_at {xs : List V} : Yk (YAt xs) := fun _ H _ _ h => by rw [h.1]; exact Go.refl _ _
theorem yk_fn {f : Nat → V} : Yk (YFn f) := fun _ H _ _ h => by rw [h.1]; exact Go.refl _ _
theorem yk_pair {f g : Nat → Option V} : Yk (YPair f g) := fun _ H _ _ ⟨T, x, y, _, hT, e, _⟩ => by rw [e]; exact Go.new hT
/-- the signs of a text -/
def YSg (z : Str) : Nat → Hp → V → Hp → Prop := fun i H v H' => H' = H ∧ ∃ c, z.cps[i]? = some c ∧ v = .str ⟨#[c]⟩
theorem yk_sg {z : Str} : Yk (YSg z) := fun _ H _ _ h => by rw [h.1]; exact Go.refl _ _
theorem walk_sg {z : Str} : Walk (Its z) z.cps.size (fun _ => True) (YSg z) := walk_str

section
variable {J : It} {n : Nat} {G : Hp → Prop} {Y : Nat → Hp → V → Hp → Prop}
/-- [e for x in .. if t]: sel tells which turns are kept; R what a kept turn's item is; Z what more stands between the turns (by the cells of M alone) -/
theorem lc_fil (w : Walk J n G Y) {g : TG} {tt : TT} {te : TE} {vs : List Nat} {σ : L2.St} {H1 : Hp} {D : Addr} {Qd : Hp → Prop} (M : List Addr) (Z : Nat → Hp → Prop) (R : Nat → V → Hp → Prop) (sel : Nat → Bool)
    (hy : Yk Y) (hn : n ≤ 100000) (hD : H1 D = none) (hM : ∀ a ∈ M, H1 a ≠ none) (gG : ∀ H, Go M H1 H → G H) (z0 : Z 0 H1) (zm : ∀ i H H', Z i H → (∀ a ∈ M, H' a = H a) → Z i H')
    (rm : ∀ i y N H H', Go N H H' → R i y H → R i y H')
    (turn : ∀ i x H H' (Fin : V → Hp → Prop) (Skip : Hp → Prop), i < n → Go M H1 H → Go [] H H' → Z i H → Y i H x H' →
      (∀ y H4, sel i = true → Go M H H4 → Z (i + 1) H4 → R i y H4 → Fin y H4) → (∀ H3, sel i = false → Go M H H3 → Z (i + 1) H3 → Skip H3) →
      g x (wipe σ vs) H' fun σ2 H2 => wipe σ2 vs = wipe σ vs ∧ tt σ2 H2 fun b H3 => if b = true then te σ2 H3 Fin else Skip H3)
    (done : ∀ H ys, Go M H1 H → Z n H → H D = some (.lst ys) → ys.length = ((List.range n).filter sel).length → (∀ (k : Nat) (y : V) (i : Nat), ys[k]? = some y → ((List.range n).filter sel)[k]? = some i → R i y H) → Qd H) :
    ∃ W : Nat → Nat → Hp → Prop, (∃ m, W 0 m (upd H1 D (.lst []))) ∧ ∀ i m H, W i m H →
      (J.stop i H ∧ Qd H) ∨ (J.go i H ∧ ∃ Nx : Hp → Prop, (∀ H', Nx H' → ∃ m', m' < m ∧ W (i + 1) m' H') ∧ ∀ x H', J.yld i H x H' → g x (wipe σ vs) H' fun σ2 H2 => wipe σ2 vs = wipe σ vs ∧ tt σ2 H2 fun b H3 =>
        if b = true then te σ2 H3 fun y H4 => ∃ acc, H4 D = some (.lst acc) ∧ acc.length < sizeLine ∧ Nx (upd H4 D (.lst (acc ++ [y]))) else Nx H3) := by
  have hDM : D ∉ M := fun h => hM D h hD
  have nM : ∀ {H : Hp} {o : HO}, ∀ a ∈ M, (upd H D o) a = H a := fun a ha => upd_ne fun e => hDM (e ▸ ha)
  refine lc_it w (fun i H => ∃ ys, Go M H1 H ∧ Z i H ∧ H D = some (.lst ys) ∧ ys.length = ((List.range i).filter sel).length ∧ ∀ (k : Nat) (y : V) (j : Nat), ys[k]? = some y → ((List.range i).filter sel)[k]? = some j → R j y H)
    ⟨[], (Go.refl M H1).mut hD, zm 0 H1 _ z0 nM, upd_same, rfl, fun k y j e => by simp at e⟩ (fun i H _ ⟨_, g1, _⟩ => gG H g1) ?_ (fun H ⟨ys, g1, z, d, l, r⟩ => done H ys g1 z d l r)
  rintro i x H H' hi ⟨ys, g1, z, d, l, r⟩ y
  have gy : Go [] H H' := hy i H x H' y
  have hlen : ys.length ≤ i := by rw [l]; exact Nat.le_trans (List.length_filter_le _ _) (by simp)
  have el : (List.range (i + 1)).filter sel = (List.range i).filter sel ++ (if sel i = true then [i] else []) := by
    rw [List.range_succ, List.filter_append]
    congr 1
    by_cases hs : sel i = true
    · simp [hs]
    · simp [hs]
  refine turn i x H H' _ _ hi g1 gy z y ?_ ?_
  · intro v H4 hb g4 z4 r4
    have d4 : H4 D = some (.lst ys) := g4.old D _ hDM d
    refine ⟨ys, d4, Nat.lt_of_lt_of_le (Nat.lt_succ_of_le hlen) (Nat.le_trans (show i + 1 ≤ 100000 by omega) (by decide)), ys ++ [v], (g1.trans g4).mut hD, zm _ H4 _ z4 nM, upd_same, ?_, ?_⟩
    · rw [el, if_pos hb]
      simp [l]
    · have gD : Go [D] H4 (upd H4 D (.lst (ys ++ [v]))) := Go.put d4 rfl (List.Mem.head _)
      intro k y' j ek ej
      rw [el, if_pos hb] at ej
      by_cases hk : k < ys.length
      · rw [List.getElem?_append_left hk] at ek
        rw [List.getElem?_append_left (by omega)] at ej
        exact rm _ _ _ _ _ gD (rm _ _ _ _ _ g4 (r k y' j ek ej))
      · have hk2 : k = ys.length := by
          have := (List.getElem?_eq_some_iff.mp ek).1
          simp at this
          omega
        subst hk2
        rw [List.getElem?_append_right (Nat.le_refl _)] at ek
        rw [l, List.getElem?_append_right (Nat.le_refl _)] at ej
        simp at ek ej
        subst ek ej
        exact rm _ _ _ _ _ gD r4
  · intro H3 hb g3 z3
    have d3 : H3 D = some (.lst ys) := g3.old D _ hDM d
    refine ⟨ys, g1.trans g3, z3, d3, ?_, ?_⟩
    · rw [el, hb]
      simpa using l
    · intro k y' j ek ej
      rw [el, hb] at ej
      exact rm _ _ _ _ _ g3 (r k y' j ek (by simpa using ej))
/-- [e for x in ..] -/
theorem lc_map (w : Walk J n G Y) {g : TG} {te : TE} {vs : List Nat} {σ : L2.St} {H1 : Hp} {D : Addr} {Qd : Hp → Prop} (M : List Addr) (Z : Nat → Hp → Prop) (R : Nat → V → Hp → Prop)
    (hy : Yk Y) (hn : n ≤ 100000) (hD : H1 D = none) (hM : ∀ a ∈ M, H1 a ≠ none) (gG : ∀ H, Go M H1 H → G H) (z0 : Z 0 H1) (zm : ∀ i H H', Z i H → (∀ a ∈ M, H' a = H a) → Z i H')
    (rm : ∀ i y N H H', Go N H H' → R i y H → R i y H')
    (turn : ∀ i x H H' (Fin : V → Hp → Prop), i < n → Go M H1 H → Go [] H H' → Z i H → Y i H x H' →
      (∀ y H4, Go M H H4 → Z (i + 1) H4 → R i y H4 → Fin y H4) → g x (wipe σ vs) H' fun σ2 H2 => wipe σ2 vs = wipe σ vs ∧ te σ2 H2 Fin)
    (done : ∀ H ys, Go M H1 H → Z n H → H D = some (.lst ys) → ys.length = n → (∀ (i : Nat) (y : V), ys[i]? = some y → R i y H) → Qd H) :
    ∃ W : Nat → Nat → Hp → Prop, (∃ m, W 0 m (upd H1 D (.lst []))) ∧ ∀ i m H, W i m H →
      (J.stop i H ∧ Qd H) ∨ (J.go i H ∧ ∃ Nx : Hp → Prop, (∀ H', Nx H' → ∃ m', m' < m ∧ W (i + 1) m' H') ∧ ∀ x H', J.yld i H x H' → g x (wipe σ vs) H' fun σ2 H2 => wipe σ2 vs = wipe σ vs ∧ tYes σ2 H2 fun b H3 =>
        if b = true then te σ2 H3 fun y H4 => ∃ acc, H4 D = some (.lst acc) ∧ acc.length < sizeLine ∧ Nx (upd H4 D (.lst (acc ++ [y]))) else Nx H3) := by
  have hDM : D ∉ M := fun h => hM D h hD
  have nM : ∀ {H : Hp} {o : HO}, ∀ a ∈ M, (upd H D o) a = H a := fun a ha => upd_ne fun e => hDM (e ▸ ha)
  refine lc_it w (fun i H => ∃ ys, Go M H1 H ∧ Z i H ∧ H D = some (.lst ys) ∧ ys.length = i ∧ ∀ (k : Nat) (y : V), ys[k]? = some y → R k y H)
    ⟨[], (Go.refl M H1).mut hD, zm 0 H1 _ z0 nM, upd_same, rfl, fun k y e => by simp at e⟩ (fun i H _ ⟨_, g1, _⟩ => gG H g1) ?_ (fun H ⟨ys, g1, z, d, l, r⟩ => done H ys g1 z d l r)
  rintro i x H H' hi ⟨ys, g1, z, d, l, r⟩ y
  refine turn i x H H' _ hi g1 (hy i H x H' y) z y ?_
  intro v H4 g4 z4 r4
  have d4 : H4 D = some (.lst ys) := g4.old D _ hDM d
  have gD : Go [D] H4 (upd H4 D (.lst (ys ++ [v]))) := Go.put d4 rfl (List.Mem.head _)
  refine ⟨ys, d4, Nat.lt_of_lt_of_le (show ys.length < 100000 by omega) (by decide), ys ++ [v], (g1.trans g4).mut hD, zm _ H4 _ z4 nM, upd_same, by simp [l], ?_⟩
  intro k y' ek
  by_cases hk : k < ys.length
  · rw [List.getElem?_append_left hk] at ek
    exact rm _ _ _ _ _ gD (rm _ _ _ _ _ g4 (r k y' ek))
  · have hk2 : k = ys.length := by
      have := (List.getElem?_eq_some_iff.mp ek).1
      simp at this
      omega
    subst hk2
    rw [List.getElem?_append_right (Nat.le_refl _)] at ek
    simp at ek
    subst ek
    rw [l]
    exact rm _ _ _ _ _ gD r4
end
end Sd

/-! SdF: isinstance of data, zip of tuples, lengths, what a comprehension over a tuple gives -/
namespace Sd
open PySem PySem.Spec PyProof.Rows L2 RZ RT

def tyName : PyData → String
  | .none => "NoneType"
  | .bool _ => "bool"
  | .int _ => "int"
  | .str _ => "str"
  | .list _ => "list"
  | .tuple _ => "tuple"
  | .dict _ => "dict"
theorem dp_ty {K : PySem.W.Frag} {H : Hp} {v : V} {d : PyData} (h : Dp K H v d) : TyX K H v (.type (tyName d)) := by
  cases h with
  | non => exact .base .non
  | bl b => exact .base (.bl b)
  | int i => exact .base (.int i)
  | str x => exact .base (.str x)
  | lst h _ =>
    rcases h with (h | ⟨o, h⟩) | h
    · exact .base (.lst h)
    · exact .base (.frz h)
    · obtain ⟨o, its, n, e, c, _⟩ := h
      exact .kList e c
  | tup h _ =>
    rcases h with (h | ⟨o, h⟩) | h
    · exact .base (.tup h)
    · exact .fTuple h
    · obtain ⟨o, its, n, e, c, _⟩ := h
      exact .kTuple e c
def isInt : PyData → Bool | .int _ | .bool _ => true | _ => false
def isBool : PyData → Bool | .bool _ => true | _ => false
def isStr : PyData → Bool | .str _ => true | _ => false
def isTup : PyData → Bool | .tuple _ => true | _ => false
def isLst : PyData → Bool | .list _ => true | _ => false
section
variable {K : PySem.W.Frag} {H : Hp} {v : V} {d : PyData} {Q : VK}
theorem r_isInt (h : Dp K H v d) (q : Q (.bl (isInt d)) H) : rIsi K [v, .ty "int"] H Q := by
  refine ⟨v, _, _, _, isInt d, rfl, .ty "int", dp_ty h, ?_, q⟩
  cases d <;> (refine kit_ty ?_) <;> dsimp only [tyName, isInt, isBool, isStr, isTup, isLst] <;> decide +kernel
theorem r_isBool (h : Dp K H v d) (q : Q (.bl (isBool d)) H) : rIsi K [v, .ty "bool"] H Q := by
  refine ⟨v, _, _, _, isBool d, rfl, .ty "bool", dp_ty h, ?_, q⟩
  cases d <;> (refine kit_ty ?_) <;> dsimp only [tyName, isInt, isBool, isStr, isTup, isLst] <;> decide +kernel
theorem r_isStr (h : Dp K H v d) (q : Q (.bl (isStr d)) H) : rIsi K [v, .ty "str"] H Q := by
  refine ⟨v, _, _, _, isStr d, rfl, .ty "str", dp_ty h, ?_, q⟩
  cases d <;> (refine kit_ty ?_) <;> dsimp only [tyName, isInt, isBool, isStr, isTup, isLst] <;> decide +kernel
theorem r_isTup (h : Dp K H v d) (q : Q (.bl (isTup d)) H) : rIsi K [v, .ty "tuple"] H Q := by
  refine ⟨v, _, _, _, isTup d, rfl, .ty "tuple", dp_ty h, ?_, q⟩
  cases d <;> (refine kit_ty ?_) <;> dsimp only [tyName, isInt, isBool, isStr, isTup, isLst] <;> decide +kernel
theorem r_isLst (h : Dp K H v d) (q : Q (.bl (isLst d)) H) : rIsi K [v, .ty "list"] H Q := by
  refine ⟨v, _, _, _, isLst d, rfl, .ty "list", dp_ty h, ?_, q⟩
  cases d <;> (refine kit_ty ?_) <;> dsimp only [tyName, isInt, isBool, isStr, isTup, isLst] <;> decide +kernel
theorem dp_tup_inv {ds : List PyData} (h : Dp K H v (.tuple ds)) : ∃ a xs, v = .ref a ∧ SqT K H a xs ∧ DpAll K H xs ds := by
  cases h with
  | tup h a => exact ⟨_, _, rfl, h, a⟩
theorem dp_lst_inv {ds : List PyData} (h : Dp K H v (.list ds)) : ∃ a xs, v = .ref a ∧ SqL K H a xs ∧ DpAll K H xs ds := by
  cases h with
  | lst h a => exact ⟨_, _, rfl, h, a⟩
theorem r_lenT {a : Addr} {xs : List V} (h : SqT K H a xs) (q : Q (.int (xs.length : Nat)) H) : rLenU K [.ref a] H Q := ⟨_, _, rfl, .inr ⟨xs, h, rfl⟩, q⟩
theorem r_lenL {a : Addr} {xs : List V} (h : SqL K H a xs) (q : Q (.int (xs.length : Nat)) H) : rLenU K [.ref a] H Q := ⟨_, _, rfl, .inl ⟨xs, h, rfl⟩, q⟩
theorem r_lenS {s : Str} (h : s.length ≤ sizeLine) (q : Q (.int (s.length : Nat)) H) : rLenU K [.str s] H Q := ⟨_, _, rfl, ⟨h, rfl⟩, q⟩
theorem r_inSg {c : Nat} {z : Str} (q : Q (.bl (decide (c ∈ z.cps.toList))) H) : rInU K (.str ⟨#[c]⟩) (.str z) H Q := .inl (.inr ⟨c, z, rfl, rfl, q⟩)
theorem r_inT {x : V} {p : Addr} {xs : List V} (h : SqT K H p xs) (hx : flatV x = true) (ha : xs.all flatV = true) (q : Q (.bl (inV x xs)) H) : rInU K x (.ref p) H Q := .inl (.inl ⟨p, xs, rfl, .inr h, hx, ha, q⟩)
theorem r_niT {x : V} {p : Addr} {xs : List V} (h : SqT K H p xs) (hx : flatV x = true) (ha : xs.all flatV = true) (q : Q (.bl (!inV x xs)) H) : rNiU K x (.ref p) H Q := .inl (.inl ⟨p, xs, rfl, .inr h, hx, ha, q⟩)
theorem r_inL {x : V} {p : Addr} {xs : List V} (h : SqL K H p xs) (hx : flatV x = true) (ha : xs.all flatV = true) (q : Q (.bl (inV x xs)) H) : rInU K x (.ref p) H Q := .inl (.inl ⟨p, xs, rfl, .inl h, hx, ha, q⟩)
theorem r_all {a : Addr} {bs : List Bool} (h : SqL K H a (bs.map V.bl)) (q : Q (.bl (bs.all id)) H) : rAll K [.ref a] H Q := ⟨a, bs, rfl, h, q⟩
end
theorem cut_from {xs : List V} (k : Nat) : cutV xs (some (k : Int)) none = xs.drop k := by
  unfold cutV
  rw [HT.sIx_nat, HT.sIx_none]
  by_cases h : k ≤ xs.length
  · rw [Nat.min_eq_left h]
    exact List.take_of_length_le (by simp)
  · rw [Nat.min_eq_right (by omega), List.drop_of_length_le (Nat.le_refl _), List.drop_of_length_le (by omega)]
    simp
theorem cut_to {xs : List V} (k : Nat) : cutV xs none (some (k : Int)) = xs.take k := by
  unfold cutV
  rw [HT.sIx_nat, HT.sIx_none, List.drop_zero, Nat.sub_zero]
  by_cases h : k ≤ xs.length
  · rw [Nat.min_eq_left h]
  · rw [Nat.min_eq_right (by omega), List.take_of_length_le (Nat.le_refl _), List.take_of_length_le (by omega)]
theorem cut_in {xs : List V} (i k : Nat) : cutV xs (some (i : Int)) (some (k : Int)) = (xs.take k).drop i := by
  unfold cutV
  rw [HT.sIx_nat, HT.sIx_nat, List.drop_take]
  by_cases h : k ≤ xs.length
  · rw [Nat.min_eq_left h]
    by_cases h2 : i ≤ xs.length
    · rw [Nat.min_eq_left h2]
    · rw [Nat.min_eq_right (by omega), List.drop_of_length_le (Nat.le_refl _), List.drop_of_length_le (by omega)]
      simp
  · rw [Nat.min_eq_right (by omega)]
    by_cases h2 : i ≤ xs.length
    · rw [Nat.min_eq_left h2, List.take_of_length_le (by simp), List.take_of_length_le (by simp; omega)]
    · rw [Nat.min_eq_right (by omega), List.drop_of_length_le (Nat.le_refl _), List.drop_of_length_le (by omega)]
      simp
theorem r_slT {K : PySem.W.Frag} {H : Hp} {Q : VK} {a : Addr} {xs : List V} {lo hi : Option Int} (h : SqT K H a xs) (k : ∀ b H', Go [] H H' → SqT K H' b (cutV xs lo hi) → Q (.ref b) H') : rSlU K (.ref a) lo hi H Q := by
  refine .inl (.inr ⟨a, xs, rfl, h, fun hw => k a H (Go.refl _ _) ?_, fun _ p hp => k p _ (Go.new hp) (SqT.of upd_same)⟩)
  unfold cutV
  rw [hw.1, hw.2, List.drop_zero, Nat.sub_zero, List.take_of_length_le (Nat.le_refl _)]
  exact h
theorem r_slL {K : PySem.W.Frag} {H : Hp} {Q : VK} {a : Addr} {xs : List V} {lo hi : Option Int} (h : SqL K H a xs) (k : ∀ b H', H b = none → Go [] H H' → H' b = some (.lst (cutV xs lo hi)) → Q (.ref b) H') : rSlU K (.ref a) lo hi H Q :=
  .inl (.inl ⟨a, xs, rfl, h, fun p hp => k p _ hp (Go.new hp) upd_same⟩)
theorem walk_zipT {K : PySem.W.Frag} {a b : Addr} {xs ys : List V} {n : Nat} (hn : n = min xs.length ys.length) : Walk (ItzT K a b) n (fun H => SqT K H a xs ∧ SqT K H b ys) (YPair (fun i => xs[i]?) (fun i => ys[i]?)) := by
  subst hn
  refine ⟨fun i H hi q => ?_, fun H q => ⟨xs, ys, q.1, q.2, by omega⟩, fun i H v H' _ q y => ?_⟩
  · exact ⟨xs, ys, xs[i]'(by omega), ys[i]'(by omega), q.1, q.2, List.getElem?_eq_getElem _, List.getElem?_eq_getElem _⟩
  · obtain ⟨T, x, z, h1, h2, h3, h4, h5⟩ := y
    exact ⟨T, x, z, h1, h2, h3, h4 xs q.1, h5 ys q.2⟩
theorem walk_revT {K : PySem.W.Frag} {a : Addr} {xs : List V} : Walk (ItvT K a xs.length) xs.length (fun H => SqT K H a xs) (fun i H x H' => H' = H ∧ xs[xs.length - 1 - i]? = some x) :=
  ⟨fun i H hi q => ⟨hi, xs, xs[xs.length - 1 - i]'(by omega), q, List.getElem?_eq_getElem _⟩, fun H q => Nat.le_refl _, fun i H x H' _ q y => ⟨y.1, y.2 xs q⟩⟩
/-- values given turn by turn are a list -/
theorem list_of {α β : Type} {f : α → β} {xs : List α} {ys : List β} (hl : ys.length = xs.length) (h : ∀ (i : Nat) (y : β), ys[i]? = some y → ∃ x, xs[i]? = some x ∧ y = f x) : ys = xs.map f := by
  apply List.ext_getElem? 
  intro i
  rw [List.getElem?_map]
  cases e : ys[i]? with
  | none =>
    have : xs[i]? = none := by
      rw [List.getElem?_eq_none_iff] at e ⊢
      omega
    rw [this]
    rfl
  | some y =>
    obtain ⟨x, hx, rfl⟩ := h i y e
    rw [hx]
    rfl
theorem list_of_fn {β : Type} {f : Nat → β} {n : Nat} {ys : List β} (hl : ys.length = n) (h : ∀ (i : Nat) (y : β), ys[i]? = some y → y = f i) : ys = (List.range n).map f := by
  refine list_of (by simpa using hl) fun i y e => ⟨i, ?_, h i y e⟩
  have := (List.getElem?_eq_some_iff.mp e).1
  exact List.getElem?_range (by omega)
end Sd

/-! M1: len(set(texts)), any texts -/
namespace Sd
open PySem PySem.Spec PyProof.Rows L2

/-- how many unlike ones stand among the first i -/
def unlike (xs : List Str) : Nat → Nat
  | 0 => 0
  | i + 1 => if (xs.take i).any (· == xs.getD i Str.empty) then unlike xs i else unlike xs i + 1
theorem unlike_le (xs : List Str) : ∀ i, unlike xs i ≤ i
  | 0 => Nat.le_refl _
  | i + 1 => by
    have := unlike_le xs i
    unfold unlike
    split <;> omega
/-- is among the first i -/
def among (xs : List Str) (i : Nat) (k : Str) : Bool := (xs.take i).any (· == k)
theorem among_succ {xs : List Str} {i : Nat} (h : i < xs.length) (k : Str) : among xs (i + 1) k = (among xs i k || decide (k = xs.getD i Str.empty)) := by
  have e : xs.take (i + 1) = xs.take i ++ [xs.getD i Str.empty] := by
    rw [List.take_add_one, List.getElem?_eq_getElem h, List.getD_eq_getElem?_getD, List.getElem?_eq_getElem h]
    rfl
  unfold among
  rw [e, List.any_append]
  congr 1
  by_cases z : k = xs.getD i Str.empty
  · simp [z]
  · have z' : (xs.getD i Str.empty == k) = false := beq_eq_false_iff_ne.mpr fun y => z y.symm
    simp only [List.any_cons, List.any_nil, z', Bool.or_false, decide_eq_false z]
section
variable {prog : Program} {w : World} {A : Around}
/-- the loop of set.update over an iterator that hands out texts -/
theorem update_texts {R : Result → Shared → Prop} {it : Addr} {fp wr : List Addr} {G : Array GenState → Array GenState → Prop} {n : Nat} {Pv : Nat → Value → Prop} {St : Nat → Shared → Prop}
    (W : WalksS prog w A.in1 it fp wr G n Pv St) {S : Addr} (off : S ∉ fp) {xs : List Str} (len : xs.length = n) (few : n + 1 < scanBound) (val : ∀ i v, Pv i v → ∃ t, v = .str (xs.getD i Str.empty) t) :
    ∀ (left i : Nat) (s : Shared), i + left = n → St i s → s.heap.SetOf (PySem.strKind prog w) S (among xs i) (unlike xs i) →
      (∀ s', Moved (S :: wr) G s s' → s'.heap.SetOf (PySem.strKind prog w) S (among xs n) (unlike xs n) → R (.ok (.ret .none)) s') →
      codeAny (model prog w) A (.builtin "set.update.loop" ⟨[.ref S, .ref it], []⟩) R s := by
  have offW : S ∉ wr := fun z => off (W.sub _ z)
  have carry : ∀ {s s' : Shared} {T : Str → Bool} {m : Nat}, Moved wr G s s' → s.heap.SetOf (PySem.strKind prog w) S T m → s'.heap.SetOf (PySem.strKind prog w) S T m := by
    rintro s s' T m mv ⟨o, es, ep, t, ho, z⟩
    exact ⟨o, es, ep, t, mv.heap S _ offW ho, z⟩
  intro left
  induction left with
  | zero =>
    intro i s hi st hS fin
    obtain rfl : i = n := by omega
    apply codeAny_builtin PyProof.Rows.F.entry_set_update_loop
    rw [Around.under_plainId PyProof.Rows.F.plain_set_update_loop _]
    change wpAny _ A.in1 (pyNext (.ref it) >>= _) _ _ s
    apply wpAny_bind
    refine W.done s _ _ st fun s' mv => ?_
    change wpAny _ A.in1 (ret Value.none) _ _ s'
    exact wpAny_pure (fin s' (mv.mono fun b hb => List.mem_cons_of_mem _ hb) (carry mv hS))
  | succ left ih =>
    intro i s hi st hS fin
    have lt : i < n := by omega
    apply codeAny_builtin PyProof.Rows.F.entry_set_update_loop
    rw [Around.under_plainId PyProof.Rows.F.plain_set_update_loop _]
    change wpAny _ A.in1 (pyNext (.ref it) >>= _) _ _ s
    apply wpAny_bind
    refine W.item i s _ _ lt st fun v s' pv st' mv => ?_
    rcases val i v pv with ⟨t, rfl⟩
    change wpAny _ A.in1 (holding [Value.str (xs.getD i Str.empty) t] (setAdd S (.str (xs.getD i Str.empty) t)) >>= _) _ _ s'
    apply wpAny_bind
    apply wpAny_holding
    unfold setAdd
    apply wpAny_holding
    apply wpAny_bind
    refine (PySem.strKind prog w).pyHash (k := xs.getD i Str.empty) (strKind_is _ _ _ _) ?_
    have room : unlike xs i + 1 < scanBound := by
      have := unlike_le xs i
      omega
    refine wpAny_setAddHashed_of (knd := PySem.strKind prog w) (s := { s' with toks := s'.toks + 1 }) (strKind_is _ _ _ _) rfl (show s'.heap.SetOf _ _ _ _ from carry mv hS) room fun h' but hS2 => ?_
    have hS3 : h'.SetOf (PySem.strKind prog w) S (among xs (i + 1)) (unlike xs (i + 1)) := PyProof.Rows.SetOf_congr hS2 (fun k => (among_succ (by omega) k).symm) rfl
    refine wpAny_pure ⟨plainId_quiet PyProof.Rows.F.plain_set_update_loop _, ih (i + 1) _ (by omega) (W.frame _ s' _ _ st' (Nat.le_succ _) fun b hb o e => ?_) hS3 fun s'' mv2 hS4 => fin s'' (Moved.trans W.gtrans ((mv.mono fun b hb => List.mem_cons_of_mem _ hb).then_heap (Nat.le_succ _) fun b o hb e => ?_) mv2) hS4⟩
    · exact (but.2 b fun z => off (z ▸ hb)).trans e
    · exact (but.2 b fun z => hb (z ▸ List.mem_cons_self)).trans e
end

section
variable {prog : Program} {w : World} {A : Around} {E : Value → Shared → Prop} {s : Shared}
/-- set(l), l a list of texts -/
theorem set_of_texts {l : Addr} {items : Array Value} {xs : List Str} {Q : Value → Shared → Prop} (calm : A.handled = none) (hl : s.heap.IsList l items) (txt : PyProof.Rows.StrsAre items.toList xs) (few : xs.length + 1 < scanBound)
    (h : ∀ (h' : Heap) (tk : Nat), h'.SetOf (PySem.strKind prog w) s.heap.objs.size (among xs xs.length) (unlike xs xs.length) → (∀ b o, b < s.heap.objs.size → s.heap.get? b = some o → h'.get? b = some o) → Q (.ref s.heap.objs.size) { s with heap := h', toks := tk }) :
    wpAny (model prog w) A (call (.type "set") [.ref l]) Q E s := by
  rcases PySem.F.called_set with ⟨no1, can, ⟨c, tl, mro⟩, made, _, sub, ini⟩
  have many : xs.length = items.size := by rw [← StrsAre.len_eq txt, Array.length_toList]
  have one := PySem.F.typeCall_set_1 (.ref l)
  apply wpAny_call
  apply codeAny_of_tree
  change wpAny _ _ (callAny (.type "set") _) _ _ _
  refine wpAny_pure ⟨Code.quiet_builtin _ (by decide +kernel), codeAny_builtin PySem.F.entry_type_call ?_⟩
  rw [Around.under_plain (weight_type_call_type "set" [.ref l] []) rfl]
  repeat (any_goals first | assumption | wp_step)
  -- the empty set, then its __init__
  refine codeAny_mono (code_set_new_1 (.ref l) (E := E) (Q₁ := fun obj s1 => ∃ led : Bool, obj = .ref s.heap.objs.size ∧ s1 = { s with heap := s.heap.push { cls := .type "set", dict := none, data := .set #[] 0 (.fresh 0 0 led) } }) fun led => ⟨led, rfl, rfl⟩) ?_
  intro r s1 hr
  match r, hr with
  | .error _, hr => exact hr
  | .ok .next, hr => exact hr.elim
  | .ok .brk, hr => exact hr.elim
  | .ok .cont, hr => exact hr.elim
  | .ok (.ret _), ⟨led, e1, e2⟩ =>
    subst e1 e2
    generalize eo : ({ cls := .type "set", dict := none, data := .set #[] 0 (.fresh 0 0 led) } : Obj) = o
    have new : (s.heap.push o).get? s.heap.objs.size = some o := by
      subst eo
      exact Heap.get?_push_size _ rfl
    have isSet : Shared.TypeIs { s with heap := s.heap.push o } (.ref s.heap.objs.size) "set" := ⟨o, new, by rw [← eo]⟩
    have look := ini.lookup
    have bnd := ini.bind (.ref s.heap.objs.size)
    repeat (any_goals first | assumption | wp_step)
    refine codeAny_mono (codeAny_call_builtin (R := wants (fun r s2 => r = .none ∧ ∃ h' tk, s2 = { s with heap := h', toks := tk } ∧ h'.SetOf (PySem.strKind prog w) s.heap.objs.size (among xs xs.length) (unlike xs xs.length) ∧
      (∀ b o, b < s.heap.objs.size → s.heap.get? b = some o → h'.get? b = some o)) E) ini.plain PySem.F.entry_set_init (check_set_init_1 isSet ?_)) ?_
    · -- the walk over the list
      subst eo
      rcases hl with ⟨⟨ocl, odc, odt, osl⟩, hol, hcl, nl, hdl⟩
      dsimp only at hcl hdl
      subst hcl hdl
      have hol2 : (s.heap.push { cls := .type "set", dict := none, data := .set #[] 0 (.fresh 0 0 led) }).get? l = some { cls := .type "list", dict := odc, data := .seq items nl, slots := osl } := Heap.get?_push_of_some _ hol
      have asList : (s.heap.push { cls := .type "set", dict := none, data := .set #[] 0 (.fresh 0 0 led) }).IsList l items := ⟨_, hol2, rfl, nl, rfl⟩
      have n1 := PySem.F.sub_list_set
      have n2 := PySem.F.sub_list_frozenset
      have n3 : (Value.type "list" == Value.type "dict") = false := by decide
      have below : l < s.heap.objs.size := Heap.lt_size hol
      have sz : (s.heap.push { cls := .type "set", dict := none, data := .set #[] 0 (.fresh 0 0 led) }).objs.size = s.heap.objs.size + 1 := Heap.size_push ..
      unfold Builtin.«set.__init__» noKeywords Builtin.Frozenset.updateFrom
      generalize itr : pyIter = P
      wp_walk
      subst itr
      refine wpAny_pyIter_list asList ?_
      refine wpAny_bind (wpAny_runValue ?_)
      have off : s.heap.objs.size ∉ [(s.heap.push { cls := .type "set", dict := none, data := .set #[] 0 (.fresh 0 0 led) }).objs.size, l] := by
        simp only [List.mem_cons, List.not_mem_nil, or_false, not_or]
        exact ⟨fun z => by rw [sz] at z; exact Nat.ne_of_lt (Nat.lt_succ_self _) z, fun z => Nat.ne_of_lt below z.symm⟩
      have few2 : items.size + 1 < scanBound := by omega
      have apart : l ≠ (s.heap.push { cls := .type "set", dict := none, data := .set #[] 0 (.fresh 0 0 led) }).objs.size := fun z => by rw [sz] at z; exact Nat.ne_of_lt (Nat.lt_succ_of_lt below) z
      refine update_texts ((Walks.list (by simp [calm] : A.in1.in1.in1.handled = none) _ l apart items).toS) (S := s.heap.objs.size) off (xs := xs) many few2
        (fun i v hv => SS.strs_at txt i v (by rw [Array.getElem?_toList]; exact hv)) items.size 0 _ (by omega) ⟨⟨_, Heap.get?_push_size _ rfl, rfl, rfl⟩, asList.push _⟩ ?_ ?_
      · have got : ((s.heap.push { cls := .type "set", dict := none, data := .set #[] 0 (.fresh 0 0 led) }).push { cls := .type "list_iterator", data := .fields #[.ref l, .int 0 0] }).get? s.heap.objs.size = some { cls := .type "set", dict := none, data := .set #[] 0 (.fresh 0 0 led) } := Heap.get?_push_of_some _ new
        exact PyProof.Rows.SetOf_congr ((PyProof.Rows.setObjOf_fresh (knd := PySem.strKind prog w) led).setOf got (by unfold scanBound; omega)) (fun _ => rfl) rfl
      · rintro ⟨h', g', d', tk', os'⟩ mv hS
        cases mv.gens
        cases mv.drawn
        cases mv.os
        change wpAny _ _ _ _ _ _
        apply wpAny_pure
        change wpAny _ _ (ret Value.none) _ _ _
        refine wpAny_pure ⟨rfl, h', tk', rfl, by rw [many]; exact hS, fun b u hb e => ?_⟩
        refine mv.heap b u (fun z => ?_) (Heap.get?_push_of_some _ (Heap.get?_push_of_some _ e))
        rcases List.mem_cons.mp z with z | z
        · exact Nat.ne_of_lt hb z
        · have z2 := List.mem_singleton.mp z
          rw [sz] at z2
          exact Nat.ne_of_lt (Nat.lt_succ_of_lt hb) z2
    · intro r2 s2 hr2
      match r2, hr2 with
      | .error _, hr2 => exact hr2
      | .ok .next, hr2 => exact hr2.elim
      | .ok .brk, hr2 => exact hr2.elim
      | .ok .cont, hr2 => exact hr2.elim
      | .ok (.ret _), ⟨e1, h', tk, e2, hS, kept⟩ =>
        subst e1 e2
        repeat (any_goals first | assumption | wp_step)
        exact h _ _ hS kept
end
end Sd

/-! M2: len(set(texts)), the rule -/
namespace Sd
open PySem PySem.Spec PyProof.Rows L2
/-- len(set(xs)), xs a list of texts -/
def tLenSetT (K : PySem.W.Frag) (ta : TE) : TE := fun σ H Q => ta σ H fun x H1 => ∃ l, ∃ xs : List Str, x = .ref l ∧ SqL K H1 l (xs.map V.str) ∧ xs.length ≤ 4000 ∧ Q (.int (unlike xs xs.length : Nat)) H1
section
variable {X : Cx}
theorem pe_lenSetT {a : Expr} {ta : TE} {p p2 q pos : Pos} (hc : X.calm = true) (hg : Gl X "len") (hm : X.mg "len" = none) (hg2 : Gl X "set") (hm2 : X.mg "set" = none) (ha : PE X a ta)
    (na : starEach [a] X.env = (false, eval a X.env) :: starEach [] X.env := by rfl) : PE X (.Call (.Name "len" p) [.Call (.Name "set" p2) [a] [] q] [] pos) (tLenSetT X.K ta) := by
  refine ⟨fun pins s σ H Q I h => ?_⟩
  refine Call_ (ld_blt I hg hm boot_len ?_)
  refine PyProof.Rows.callWith_builtin1 (PyProof.Rows.args_cons ?_ rfl) rfl rfl
  refine Call_ (ld_blt I hg2 hm2 boot_set ?_)
  refine PyProof.Rows.callWith_type1 (PyProof.Rows.args_cons (thn (ha.run pins s σ H _ I h) fun v s1 ⟨x, H1, I1, r1, q1⟩ => PyProof.Rows.args_nil ?_) na) na rfl
  obtain ⟨l, xs, rfl, hq, h1, q1⟩ := q1
  cases r1
  obtain ⟨its, r, pl, hz⟩ := I1.list hq
  have sb : scanBound = 4096 := rfl
  have ul := unlike_le xs xs.length
  refine set_of_texts (I1.ok.hd hc) pl.isList (xs := xs) (by simpa using strsAre_of r) (by omega) fun h' tk hS hk => ?_
  refine PyProof.Rows.args_nil ?_
  obtain ⟨o, es, ep, t, ho, hex, hd, _, _, _, hf, hn⟩ := hS
  have I2 : Inv X pins σ H1 { s1 with heap := h', toks := tk } := I1.kept fun b o e => hk b o (Heap.lt_size e) e
  refine call_len_set ho hex hd hf (by rw [hn] <;> omega) ⟨.int (unlike xs xs.length : Nat), H1, I2.tok _, ⟨_, by rw [hn]⟩, q1⟩
end
theorem unlike_nodup {xs : List Str} (h : xs.Nodup) : ∀ i, i ≤ xs.length → unlike xs i = i
  | 0, _ => rfl
  | i + 1, hi => by
    have ih := unlike_nodup h i (by omega)
    have e : ((xs.take i).any (· == xs.getD i Str.empty)) = false := by
      rw [List.getD_eq_getElem?_getD, List.getElem?_eq_getElem (by omega)]
      refine Bool.eq_false_iff.mpr fun y => ?_
      obtain ⟨x, hx, hxe⟩ := List.any_eq_true.mp y
      have hxe : x = xs[i] := by simpa using hxe
      obtain ⟨j, hj, hje⟩ := List.getElem_of_mem hx
      have hj' : j < i := by simp at hj; omega
      have : xs[j] = xs[i] := by
        rw [← hxe, ← hje]
        simp
      have := (List.getElem_inj h).mp this
      omega
    unfold unlike
    rw [e, ih]
    rfl
end Sd

/-! M3: comprehensions of two clauses, nothing left out -/
namespace Sd
open PySem PySem.Spec PyProof.Rows L2
section
variable {J : It} {n : Nat} {G : Hp → Prop} {Y : Nat → Hp → V → Hp → Prop}
/-- the inner walk's promise, in the i-th turn -/
def Inn (P : Nat → Nat → List V → Hp → Prop) (H1 : Hp) (D : Addr) (g1 : TG) (te : TE) (vs1 : List Nat) (i : Nat) (σ2 : L2.St) (J1 : It) (H4 : Hp) (ys : List V) : Prop :=
  ∃ n1 G1 Y1, Walk J1 n1 G1 Y1 ∧ Yk Y1 ∧ Go [] H1 H4 ∧ H4 D = some (.lst ys) ∧ P i 0 ys H4 ∧ (∀ H5, Go [D] H4 H5 → G1 H5) ∧ (∀ zs H5, P i n1 zs H5 → P (i + 1) 0 zs H5) ∧
    ∀ j y H5 H6 zs (Fin : V → Hp → Prop), j < n1 → Go [] H1 H5 → Go [D] H4 H5 → P i j zs H5 → Y1 j H5 y H6 → (∀ v H7, Go [] H6 H7 → P i (j + 1) (zs ++ [v]) H7 → Fin v H7) →
      g1 y (wipe σ2 vs1) H6 fun σ3 H8 => wipe σ3 vs1 = wipe σ2 vs1 ∧ te σ3 H8 Fin
theorem lc2_map (w : Walk J n G Y) {wi1 : TI} {g g1 : TG} {te : TE} {vs vs1 : List Nat} {σ : L2.St} {H1 : Hp} {D : Addr} {Qd : Hp → Prop} (P : Nat → Nat → List V → Hp → Prop)
    (hy : Yk Y) (hD : H1 D = none) (gG : ∀ H, Go [] H1 H → G H) (p0 : P 0 0 [] H1) (pm : ∀ i j ys N H H', Go N H H' → P i j ys H → P i j ys H') (pz : ∀ i j ys H, P i j ys H → ys.length ≤ 100000)
    (turn : ∀ i x H H' ys (Fin : L2.St → It → Hp → Prop), i < n → Go [] H1 H → P i 0 ys H → Y i H x H' → Go [] H H' → H' D = some (.lst ys) →
      (∀ σ2 J1 H4, Inn P H1 D g1 te vs1 i σ2 J1 H4 ys → Fin σ2 J1 H4) →
      g x (wipe σ vs) H' fun σ2 H2 => wipe σ2 vs = wipe σ vs ∧ wi1 σ2 H2 (Fin σ2))
    (done : ∀ H ys, Go [] H1 H → P n 0 ys H → H D = some (.lst ys) → Qd H) :
    ∃ W : Nat → Nat → Hp → Prop, (∃ m, W 0 m (upd H1 D (.lst []))) ∧ ∀ i m H, W i m H →
      (J.stop i H ∧ Qd H) ∨ (J.go i H ∧ ∃ Nx : Hp → Prop, (∀ H', Nx H' → ∃ m', m' < m ∧ W (i + 1) m' H') ∧ ∀ x H', J.yld i H x H' → g x (wipe σ vs) H' fun σ2 H2 => wipe σ2 vs = wipe σ vs ∧ tYes σ2 H2 fun b H3 =>
        if b = true then wi1 σ2 H3 fun J1 H4 => ∃ W1 : Nat → Nat → Hp → Prop, (∃ m, W1 0 m H4) ∧ ∀ j k H, W1 j k H →
          (J1.stop j H ∧ Nx H) ∨ (J1.go j H ∧ ∃ Nx1 : Hp → Prop, (∀ H', Nx1 H' → ∃ k', k' < k ∧ W1 (j + 1) k' H') ∧ ∀ x H', J1.yld j H x H' → g1 x (wipe σ2 vs1) H' fun σ3 H5 => wipe σ3 vs1 = wipe σ2 vs1 ∧ tYes σ3 H5 fun b H6 =>
            if b = true then te σ3 H6 fun y H7 => ∃ acc, H7 D = some (.lst acc) ∧ acc.length < sizeLine ∧ Nx1 (upd H7 D (.lst (acc ++ [y]))) else Nx1 H6)
        else Nx H3) := by
  refine ⟨fun i m H => m = n - i ∧ i ≤ n ∧ ∃ ys, Go [] H1 H ∧ P i 0 ys H ∧ H D = some (.lst ys), ⟨n, by simp, Nat.zero_le _, [], (Go.refl [] H1).mut hD, pm _ _ _ [] _ _ ((Go.refl [] H1).mut hD) p0, upd_same⟩, ?_⟩
  rintro i m H ⟨rfl, hi, ys, gH, p, d⟩
  have q := gG H gH
  by_cases hlt : i < n
  · refine .inr ⟨w.goes i H hlt q, fun H' => ∃ ys, Go [] H1 H' ∧ P (i + 1) 0 ys H' ∧ H' D = some (.lst ys), fun H' p' => ⟨n - (i + 1), by omega, rfl, hlt, p'⟩, fun x H' y => ?_⟩
    have yy := w.yields i H x H' hlt q y
    have gy := hy i H x H' yy
    refine turn i x H H' ys _ hlt gH p yy gy (gy.old D _ (fun z => nomatch z) d) ?_
    rintro σ2 J1 H4 ⟨n1, G1, Y1, w1, hy1, g14, d4, p4, gG1, last, turn1⟩
    refine ⟨fun j k H => k = n1 - j ∧ j ≤ n1 ∧ ∃ zs, Go [] H1 H ∧ Go [D] H4 H ∧ P i j zs H ∧ H D = some (.lst zs), ⟨n1, by simp, Nat.zero_le _, ys, g14, Go.refl _ _, p4, d4⟩, ?_⟩
    rintro j k H5 ⟨rfl, hj, zs, g15, g45, p5, d5⟩
    have q5 := gG1 H5 g45
    by_cases hlt1 : j < n1
    · refine .inr ⟨w1.goes j H5 hlt1 q5, fun H => ∃ zs, Go [] H1 H ∧ Go [D] H4 H ∧ P i (j + 1) zs H ∧ H D = some (.lst zs), fun H' p' => ⟨n1 - (j + 1), by omega, rfl, hlt1, p'⟩, fun x1 H6 y1 => ?_⟩
      have yy1 := w1.yields j H5 x1 H6 hlt1 q5 y1
      have gy1 := hy1 j H5 x1 H6 yy1
      refine turn1 j x1 H5 H6 zs _ hlt1 g15 g45 p5 yy1 ?_
      intro v H7 g67 p7
      have d7 : H7 D = some (.lst zs) := g67.old D _ (fun z => nomatch z) (gy1.old D _ (fun z => nomatch z) d5)
      have z7 := pz _ _ _ _ p7
      have gD : Go [D] H7 (upd H7 D (.lst (zs ++ [v]))) := Go.put d7 rfl (List.Mem.head _)
      have l : zs.length < 100000 := by simp at z7; omega
      refine ⟨zs, d7, Nat.lt_of_lt_of_le l (by decide), zs ++ [v], ((g15.trans gy1).trans g67).mut hD, ((g45.trans gy1.wide).trans g67.wide).trans gD, pm _ _ _ _ _ _ gD p7, upd_same⟩
    · have e1 : j = n1 := by omega
      subst e1
      exact .inl ⟨w1.stops H5 q5, zs, g15, last zs H5 p5, d5⟩
  · have e : i = n := by omega
    subst e
    exact .inl ⟨w.stops H q, done H ys gH p d⟩
end
end Sd

/-! M4: itertools.combinations, at the library's level -/
namespace Cmb
open PySem PySem.Spec
open Sem (wp)
theorem mro_c : mroOf (.type "itertools.combinations") = pure [.type "itertools.combinations", .type "object"] := by rw [mroOf_type]; kernel_rfl
theorem lookup_c_new : typeLookup (.type "itertools.combinations") "__new__" = pure (some (.builtin "itertools.combinations.__new__")) := by rw [typeLookup_type, builtinLookup_eq_fast]; kernel_rfl
theorem sub_c : isSubtype (.type "itertools.combinations") (.type "itertools.combinations") = pure true := by rw [isSubtype_type]; kernel_rfl
theorem slot_c_init : Slot "itertools.combinations" "__init__" "object.__init__" :=
  .of (owner := "object") (n := "__init__") (by rw [typeLookup_type, builtinLookup_eq_fast]; kernel_rfl) (by decide +kernel) (by decide +kernel) (by decide +kernel)
    (by first | exact .inl (by decide +kernel) | exact .inr (by decide +kernel)) (by rw [isSubtype_type]; kernel_rfl)
theorem called_c : TypeCalled "itertools.combinations" "itertools.combinations.__new__" "object.__init__" :=
  ⟨by decide +kernel, by decide +kernel, ⟨_, _, mro_c⟩, madeBy_type mro_c lookup_c_new (by decide +kernel), by decide +kernel, sub_c, slot_c_init⟩
theorem typeCall_c (a b : Value) : checkTypeCall "itertools.combinations" ⟨[a, b], []⟩ = pure () := by kernel_rfl
theorem newCall_c (a b : Value) : checkBuiltinCall "itertools.combinations.__new__" ⟨[.type "itertools.combinations", a, b], []⟩ = pure () := by kernel_rfl
theorem entry_c_new : entryFor table "itertools.combinations.__new__" = some Builtin.«itertools.combinations.__new__» := entryFor_of_tree (by kernel_rfl)
theorem plain_c_new : plainId "itertools.combinations.__new__" = true := by decide +kernel
theorem slot_c_iter : Slot "itertools.combinations" "__iter__" "itertools.combinations.__iter__" :=
  .of (owner := "itertools.combinations") (n := "__iter__") (by rw [typeLookup_type, builtinLookup_eq_fast]; kernel_rfl) (by decide +kernel) (by decide +kernel) (by decide +kernel)
    (by first | exact .inl (by decide +kernel) | exact .inr (by decide +kernel)) sub_c
theorem slot_c_next : Slot "itertools.combinations" "__next__" "itertools.combinations.__next__" :=
  .of (owner := "itertools.combinations") (n := "__next__") (by rw [typeLookup_type, builtinLookup_eq_fast]; kernel_rfl) (by decide +kernel) (by decide +kernel) (by decide +kernel)
    (by first | exact .inl (by decide +kernel) | exact .inr (by decide +kernel)) sub_c
theorem entry_c_iter : entryFor table "itertools.combinations.__iter__" = some Builtin.«dict_keyiterator.__iter__» :=
  entryFor_alias (id' := "dict_keyiterator.__iter__") (by kernel_rfl) (by first | rfl | decide +kernel | (unfold String.splitOn; simp +decide [String.splitOnAux])) (by decide +kernel) (by kernel_rfl)
theorem entry_c_next : entryFor table "itertools.combinations.__next__" = some Builtin.«itertools.combinations.__next__» := entryFor_of_tree (by kernel_rfl)
theorem owner_c : Manifest.owners.lookup (String.ofList "itertools.combinations".toList.reverse.reverse) = some Manifest.sig_itertools_combinations := by kernel_rfl
theorem args_c_iter (a : Value) : argsOk "itertools.combinations.__iter__" ⟨[a], []⟩ := by
  unfold argsOk; rw [signature?_of (id := "itertools.combinations.__iter__") (n := "__iter__".toList.reverse) (o := "itertools.combinations".toList.reverse) (by kernel_rfl) owner_c]; kernel_rfl
theorem args_c_next (a : Value) : argsOk "itertools.combinations.__next__" ⟨[a], []⟩ := by
  unfold argsOk; rw [signature?_of (id := "itertools.combinations.__next__") (n := "__next__".toList.reverse) (o := "itertools.combinations".toList.reverse) (by kernel_rfl) owner_c]; kernel_rfl
theorem noDict_c : typeHasDict (.type "itertools.combinations") = false := by decide +kernel
theorem noLen_c : typeLookup (.type "itertools.combinations") "__len__" = pure none := by rw [typeLookup_type, builtinLookup_eq_fast]; kernel_rfl
theorem noHint_c : typeLookup (.type "itertools.combinations") "__length_hint__" = pure none := by rw [typeLookup_type, builtinLookup_eq_fast]; kernel_rfl
end Cmb

namespace Cmb
open PySem PySem.Spec
open Sem (wp)
def cObj (pool : Addr) (st : Nat) (last : Value) (ix : List Nat) : Obj := { cls := .type "itertools.combinations", data := .fields ([Value.ref pool, rawInt (st : Int), last] ++ ix.map fun (i : Nat) => rawInt (i : Int)).toArray }
section
variable {prog : Program} {w : World} {A : Around} {E : Value → Shared → Prop} {s : Shared}
theorem code_c_new {Q₁ : Value → Shared → Prop} {l : Addr} {items : Array Value} {r : Nat} {t : Tok} (hl : s.heap.IsList l items) (hr : r ≤ items.size) (hz : items.size ≤ 1000)
    (h : ∀ (h' : Heap) (pool : Addr), (∀ b o, s.heap.get? b = some o → h'.get? b = some o) → h'.get? pool = some { cls := .type "tuple", data := .seq items } → s.heap.get? pool = none → h'.get? h'.objs.size = none →
      Q₁ (.ref h'.objs.size) { s with heap := h'.push (cObj pool 0 .none (List.range r)) }) :
    codeAny (model prog w) A (.call (.builtin "itertools.combinations.__new__") ⟨[.type "itertools.combinations", .ref l, .int (r : Int) t], []⟩) (wants Q₁ E) s := by
  refine codeAny_of_tree ?_
  show wpAny _ A.in1 (do checkBuiltinCall "itertools.combinations.__new__" ⟨[.type "itertools.combinations", .ref l, .int (r : Int) t], []⟩; again (.builtin "itertools.combinations.__new__" ⟨[.type "itertools.combinations", .ref l, .int (r : Int) t], []⟩)) _ _ s
  refine wpAny_bind (wpAny_of_eq (newCall_c _ _) (wpAny_pure ⟨plainId_quiet plain_c_new _, codeAny_builtin entry_c_new ?_⟩))
  rw [Around.under_plainId plain_c_new _]
  have hsub := sub_c
  have hd := noDict_c
  obtain ⟨o, ho, hc, n, hdat⟩ := id hl
  have hn : ¬ ((decide ((r : Int) < -2 ^ 63) || decide ((r : Int) ≥ 2 ^ 63)) = true) := by
    rw [decide_eq_false (by omega), decide_eq_false (by omega)]
    decide
  have htm : ¬ (Builtin.Itertools.itTooMany (r : Int) = true) := by
    unfold Builtin.Itertools.itTooMany
    rw [decide_eq_false (by omega)]
    decide
  unfold Builtin.«itertools.combinations.__new__»
  refine wpAny_bind ?_
  show wpAny _ _ (Builtin.Itertools.itClassAndRest "combinations" _ >>= _) _ _ s
  repeat (first
    | wp_step
    | simp only [List.head?_cons, Option.some_or, List.getElem?_cons_succ, List.getElem?_cons_zero, List.length_cons, List.length_nil, List.forIn_nil])
  rw [show ("itertools." ++ "combinations" : String) = "itertools.combinations" from by decide]
  refine wpAny_of_eq hsub ?_
  refine wpAny_pure ?_
  show wpAny _ _ (Builtin.Itertools.itBindNamed "combinations" ["iterable", "r"] 2 2 [Value.ref l, Value.int (r : Int) t] [] >>= _) _ _ s
  refine wpAny_bind ?_
  have bn : Builtin.Itertools.itBindNamed "combinations" ["iterable", "r"] 2 2 [Value.ref l, Value.int (r : Int) t] [] = pure [some (Value.ref l), some (Value.int (r : Int) t)] := by
    unfold Builtin.Itertools.itBindNamed
    rfl
  refine wpAny_of_eq bn ?_
  show wpAny _ _ (Builtin.Itertools.itSsizeArg (Value.int (r : Int) t) >>= _) _ _ s
  unfold Builtin.Itertools.itSsizeArg
  refine wpAny_bind (wpAny_bind ?_)
  repeat (first | wp_step)
  rw [if_neg hn]
  refine wpAny_pure ?_
  refine wpAny_bind (wpAny_collect_seq l (.inl rfl) ho hc hdat (fun h' hk => ?_) (by rw [sizeLine_eq]; omega))
  rw [if_neg (by omega), if_neg htm]
  refine wpAny_bind (wpAny_newTuple ?_ (by rw [Array.length_toList, sizeLine_eq]; omega))
  refine wpAny_pure ?_
  unfold Builtin.Itertools.itNewRecord
  dsimp only
  have hlen : items.toList.length = items.size := Array.length_toList
  rw [hd, Int.toNat_natCast, hlen, if_neg (show ¬ r > items.size by omega)]
  refine wpAny_bind ?_
  show wpAny _ _ (newObj (.type "itertools.combinations") (.fields _)) _ _ _
  refine wpAny_newObj_type ?_ ?_
  · refine wpAny_pure ?_
    have hp : (h'.push { cls := .type "tuple", data := .seq items.toList.toArray }).get? h'.objs.size = some { cls := .type "tuple", data := .seq items.toList.toArray } := Heap.get?_push_size _ rfl
    refine h (h'.push { cls := .type "tuple", data := .seq items.toList.toArray }) h'.objs.size (fun b o e => Heap.get?_push_of_some _ (hk b o e)) ?_ ?_ ?_
    · rw [hp]
    · cases e : s.heap.get? h'.objs.size with
      | none => rfl
      | some o => exact absurd (Heap.lt_size (hk _ _ e)) (Nat.lt_irrefl _)
    · cases e : (h'.push { cls := .type "tuple", data := .seq items.toList.toArray }).get? (h'.push { cls := .type "tuple", data := .seq items.toList.toArray }).objs.size with
      | none => rfl
      | some o => exact absurd (Heap.lt_size e) (Nat.lt_irrefl _)
  · show (([Value.ref h'.objs.size, rawInt 0, Value.none] ++ (List.range r).map fun (i : Nat) => rawInt (i : Int)).toArray).size ≤ sizeLine + 2
    rw [List.size_toArray, List.length_append, List.length_map, List.length_range, sizeLine_eq]
    show 3 + r ≤ _
    omega
theorem call_c {Q : Value → Shared → Prop} {l : Addr} {items : Array Value} {r : Nat} {t : Tok} (hl : s.heap.IsList l items) (hr : r ≤ items.size) (hz : items.size ≤ 1000)
    (h : ∀ (h' : Heap) (pool : Addr), (∀ b o, s.heap.get? b = some o → h'.get? b = some o) → h'.get? pool = some { cls := .type "tuple", data := .seq items } → s.heap.get? pool = none → h'.get? h'.objs.size = none →
      Q (.ref h'.objs.size) { s with heap := h'.push (cObj pool 0 .none (List.range r)) }) :
    wpAny (model prog w) A (call (.type "itertools.combinations") [.ref l, .int (r : Int) t]) Q E s := by
  refine callType_codes (Q₁ := fun obj s₁ => s₁.TypeIs obj "itertools.combinations" ∧ Q obj s₁) called_c (typeCall_c _ _) F.entry_object_init
    (code_c_new hl hr hz fun h' pool a b c d => ⟨⟨_, Heap.get?_push_size _ rfl, rfl⟩, h h' pool a b c d⟩) fun obj s₁ h₁ => ?_
  exact ⟨h₁.1, F.args_object_init_3 obj _ _, object_init_meets called_c.init.lookup called_c.made (by decide) prog w A.in1 _ s₁ ⟨h₁.1, rfl, h₁.2⟩⟩
end
end Cmb

namespace Cmb
open PySem PySem.Spec
open Sem (wp)
/-- the next indices, if there are any -/
def nextC (n : Nat) (ix : List Nat) : Option (List Nat) :=
  match (List.range ix.length).reverse.find? fun i => ix.getD i 0 != i + n - ix.length with
  | none => none
  | some i => some (ix.take i ++ (List.range (ix.length - i)).map (ix.getD i 0 + 1 + ·))
def pickC (items : Array Value) (ix : List Nat) : List Value := ix.map fun i => items.getD i .none
section
variable {prog : Program} {w : World} {A : Around} {E : Value → Shared → Prop} {s : Shared}
theorem nums_c {it pool : Addr} {st : Nat} {last : Value} {ix : List Nat} {Q : List Nat → Shared → Prop} (hit : s.heap.get? it = some (cObj pool st last ix)) (h : Q ix s) :
    wpAny (model prog w) A (Builtin.Itertools.itNumbersFrom (.ref it) 3) Q E s := by
  unfold Builtin.Itertools.itNumbersFrom
  refine wpAny_bind (wpAny_load hit ?_)
  refine wpAny_pure ?_
  have e : ((([Value.ref pool, rawInt (st : Int), last] ++ ix.map fun (i : Nat) => rawInt (i : Int)).toArray).toList.drop 3).map (fun | .int n _ => n.toNat | _ => 0) = ix := by
    show ((ix.map fun (i : Nat) => rawInt (i : Int))).map _ = ix
    rw [List.map_map]
    conv => rhs; rw [← List.map_id ix]
    exact List.map_congr_left fun i _ => rfl
  show Q (((([Value.ref pool, rawInt (st : Int), last] ++ ix.map fun (i : Nat) => rawInt (i : Int)).toArray).toList.drop 3).map (fun | .int n _ => n.toNat | _ => 0)) s
  rw [e]
  exact h
def handC (it pool : Addr) (ix : List Nat) : Sem Fin :=
  (Builtin.Itertools.itPoolItems (.ref pool) >>= fun items => newTuple (ix.map fun i => items.getD i .none)) >>= fun result => field (.ref it) 2 >>= fun before => setField (.ref it) 2 result >>= fun _ => letGo [before] [result] >>= fun _ => ret result
theorem map1 (pool : Addr) (st k : Nat) (last : Value) (ix : List Nat) : Obj.mapFields (·.setIfInBounds 1 (rawInt (k : Int))) (cObj pool st last ix) = cObj pool k last ix := by
  simp [Obj.mapFields, cObj, rawInt]
theorem map2 (pool : Addr) (st : Nat) (last x : Value) (ix : List Nat) : Obj.mapFields (·.setIfInBounds 2 x) (cObj pool st last ix) = cObj pool st x ix := by
  simp [Obj.mapFields, cObj, rawInt]
theorem hand_c {it pool : Addr} {st : Nat} {items : Array Value} {last : Value} {ix ix0 : List Nat} {Q : Fin → Shared → Prop} (hit : s.heap.get? it = some (cObj pool st last ix0)) (hp : s.heap.get? pool = some { cls := .type "tuple", data := .seq items })
    (hz : ix.length ≤ 1000)
    (h : ∀ (h' : Heap) (t : Addr), s.heap.get? t = none → h'.get? t = some { cls := .type "tuple", data := .seq (pickC items ix).toArray } → h'.get? it = some (cObj pool st (.ref t) ix0) →
      (∀ b o, b ≠ it → s.heap.get? b = some o → h'.get? b = some o) → Q (.done (.ret (.ref t))) { s with heap := h' }) :
    wpAny (model prog w) A (handC it pool ix) Q E s := by
  unfold handC Builtin.Itertools.itPoolItems
  refine wpAny_bind (wpAny_bind (wpAny_bind (wpAny_seqItems hp rfl ?_)))
  refine wpAny_pure ?_
  refine wpAny_newTuple ?_ (by rw [List.length_map, sizeLine_eq]; omega)
  have hn : s.heap.get? s.heap.objs.size = none := by
    cases e : s.heap.get? s.heap.objs.size with
    | none => rfl
    | some o => exact absurd (Heap.lt_size e) (Nat.lt_irrefl _)
  have hit1 : (s.heap.push { cls := .type "tuple", data := .seq (pickC items ix).toArray }).get? it = some (cObj pool st last ix0) := Heap.get?_push_of_some _ hit
  have hni : it ≠ s.heap.objs.size := fun e => by rw [← e, hit] at hn; cases hn
  refine wpAny_bind (wpAny_field hit1 rfl (x := last) rfl ?_)
  refine wpAny_bind (wpAny_setField hit1 rfl (by simp) ?_)
  refine wpAny_bind (wpAny_letGo ?_)
  refine wpAny_pure ?_
  have e2 := Heap.get?_update_self (Obj.mapFields (·.setIfInBounds 2 (Value.ref s.heap.objs.size))) hit1 rfl
  rw [map2] at e2
  refine h _ s.heap.objs.size hn ?_ e2 fun b o hb e => ?_
  · exact (Heap.get?_update_other _ _ hni).trans (Heap.get?_push_size _ rfl)
  · exact (Heap.get?_update_other _ _ (Ne.symm hb)).trans (Heap.get?_push_of_some _ e)
theorem next_first {it pool : Addr} {items : Array Value} {last : Value} {ix : List Nat} {Q : Option Value → Shared → Prop} (hit : s.heap.get? it = some (cObj pool 0 last ix)) (hp : s.heap.get? pool = some { cls := .type "tuple", data := .seq items })
    (hz : ix.length ≤ 1000)
    (h : ∀ (h' : Heap) (t : Addr), s.heap.get? t = none → h'.get? t = some { cls := .type "tuple", data := .seq (pickC items ix).toArray } → h'.get? it = some (cObj pool 1 (.ref t) ix) →
      (∀ b o, b ≠ it → s.heap.get? b = some o → h'.get? b = some o) → Q (some (.ref t)) { s with heap := h' }) :
    wpAny (model prog w) A (pyNext (.ref it)) Q E s := by
  have hT : s.TypeIs (.ref it) "itertools.combinations" := ⟨_, hit, rfl⟩
  unfold pyNext
  refine wpAny_bind (wpAny_attempt (wpAny_callSpecial?_slot (name := Str.ofString "__next__") hT slot_c_next (wpAny_call_entry slot_c_next hT entry_c_next ?_ (args_c_next _))))
  show wpAny _ _ (field (.ref it) 0 >>= _) _ _ s
  refine wpAny_bind (wpAny_field hit rfl (x := .ref pool) rfl ?_)
  show wpAny _ _ (Builtin.Itertools.itNumbersFrom (.ref it) 3 >>= _) _ _ s
  refine wpAny_bind (nums_c hit ?_)
  show wpAny _ _ (Builtin.Itertools.itIntField (.ref it) 1 >>= _) _ _ s
  unfold Builtin.Itertools.itIntField
  refine wpAny_bind (wpAny_bind (wpAny_field hit rfl (x := rawInt 0) rfl ?_))
  refine wpAny_pure ?_
  show wpAny _ _ (setField (.ref it) 1 (rawInt 1) >>= fun _ => handC it pool ix) _ _ s
  refine wpAny_bind (wpAny_setField hit rfl (by simp) ?_)
  have e1 := Heap.get?_update_self (Obj.mapFields (·.setIfInBounds 1 (rawInt 1))) hit rfl
  have e1 : (s.heap.update it (Obj.mapFields (·.setIfInBounds 1 (rawInt 1)))).get? it = some (cObj pool 1 last ix) := e1.trans (congrArg some (map1 pool 0 1 last ix))
  have hpi : it ≠ pool := fun e => by
    rw [← e, hit] at hp
    have z : some (Value.type "itertools.combinations") = some (Value.type "tuple") := congrArg (Option.map Obj.cls) hp
    simp at z
  have hp1 : (s.heap.update it (Obj.mapFields (·.setIfInBounds 1 (rawInt 1)))).get? pool = _ := (Heap.get?_update_other _ _ hpi).trans hp
  refine hand_c (s := { s with heap := s.heap.update it (Obj.mapFields (·.setIfInBounds 1 (rawInt 1))) }) e1 hp1 hz fun h' t ht htt hi hk => ⟨.ref t, rfl, wpAny_pure ?_⟩
  refine h h' t ?_ htt hi fun b o hb e => hk b o hb ((Heap.get?_update_other _ _ (Ne.symm hb)).trans e)
  cases e : s.heap.get? t with
  | none => rfl
  | some o =>
    by_cases z : it = t
    · subst z
      exact absurd (ht.symm.trans e1) (by simp)
    · exact absurd (ht.symm.trans ((Heap.get?_update_other _ _ z).trans e)) (by simp)
end
end Cmb

namespace Cmb
open PySem PySem.Spec
open Sem (wp)
section
variable {prog : Program} {w : World} {A : Around} {E : Value → Shared → Prop} {s : Shared}
theorem map3 (pool : Addr) (st : Nat) (last : Value) (ix nx : List Nat) : Obj.mapFields (fun fs => fs.extract 0 3 ++ (nx.map fun (n : Nat) => rawInt (n : Int)).toArray) (cObj pool st last ix) = cObj pool st last nx := by
  simp [Obj.mapFields, cObj, rawInt]
theorem hpi_c {it pool : Addr} {st : Nat} {items : Array Value} {last : Value} {ix : List Nat} (hit : s.heap.get? it = some (cObj pool st last ix)) (hp : s.heap.get? pool = some { cls := .type "tuple", data := .seq items }) : it ≠ pool := fun e => by
  rw [← e, hit] at hp
  have z : some (Value.type "itertools.combinations") = some (Value.type "tuple") := congrArg (Option.map Obj.cls) hp
  simp at z
theorem old_none {it t : Addr} {f : Obj → Obj} {o : Obj} (hit : (s.heap.update it f).get? it = some o) (ht : (s.heap.update it f).get? t = none) : s.heap.get? t = none := by
  cases e : s.heap.get? t with
  | none => rfl
  | some o =>
    by_cases z : it = t
    · subst z
      exact absurd (ht.symm.trans hit) (by simp)
    · exact absurd (ht.symm.trans ((Heap.get?_update_other _ _ z).trans e)) (by simp)
theorem next_more {it pool : Addr} {items : Array Value} {last : Value} {ix nx : List Nat} {Q : Option Value → Shared → Prop} (hit : s.heap.get? it = some (cObj pool 1 last ix)) (hp : s.heap.get? pool = some { cls := .type "tuple", data := .seq items })
    (hx : nextC items.size ix = some nx) (hz : nx.length ≤ 1000)
    (h : ∀ (h' : Heap) (t : Addr), s.heap.get? t = none → h'.get? t = some { cls := .type "tuple", data := .seq (pickC items nx).toArray } → h'.get? it = some (cObj pool 1 (.ref t) nx) →
      (∀ b o, b ≠ it → s.heap.get? b = some o → h'.get? b = some o) → Q (some (.ref t)) { s with heap := h' }) :
    wpAny (model prog w) A (pyNext (.ref it)) Q E s := by
  have hT : s.TypeIs (.ref it) "itertools.combinations" := ⟨_, hit, rfl⟩
  unfold pyNext
  refine wpAny_bind (wpAny_attempt (wpAny_callSpecial?_slot (name := Str.ofString "__next__") hT slot_c_next (wpAny_call_entry slot_c_next hT entry_c_next ?_ (args_c_next _))))
  show wpAny _ _ (field (.ref it) 0 >>= _) _ _ s
  refine wpAny_bind (wpAny_field hit rfl (x := .ref pool) rfl ?_)
  show wpAny _ _ (Builtin.Itertools.itNumbersFrom (.ref it) 3 >>= _) _ _ s
  refine wpAny_bind (nums_c hit ?_)
  show wpAny _ _ (Builtin.Itertools.itIntField (.ref it) 1 >>= _) _ _ s
  unfold Builtin.Itertools.itIntField
  refine wpAny_bind (wpAny_bind (wpAny_field hit rfl (x := rawInt 1) rfl ?_))
  refine wpAny_pure ?_
  show wpAny _ _ (Builtin.Itertools.itPoolItems (.ref pool) >>= fun xs => match nextC xs.size ix with | some next => (Builtin.Itertools.itSetNumbersFrom (.ref it) 3 next >>= fun _ => handC it pool next) | none => (setField (.ref it) 1 (rawInt 2) >>= fun _ => Builtin.Itertools.itStop)) _ _ s
  refine wpAny_bind ?_
  unfold Builtin.Itertools.itPoolItems
  refine wpAny_bind (wpAny_seqItems hp rfl ?_)
  refine wpAny_pure ?_
  rw [hx]
  show wpAny _ _ (updateFields it (fun fs => fs.extract 0 3 ++ (nx.map fun (n : Nat) => rawInt (n : Int)).toArray) >>= fun _ => handC it pool nx) _ _ s
  refine wpAny_bind (wpAny_updateFields hit rfl ?_ ?_)
  · have e1 := Heap.get?_update_self (Obj.mapFields (fun fs => fs.extract 0 3 ++ (nx.map fun (n : Nat) => rawInt (n : Int)).toArray)) hit rfl
    rw [map3] at e1
    have hp1 : (s.heap.update it (Obj.mapFields (fun fs => fs.extract 0 3 ++ (nx.map fun (n : Nat) => rawInt (n : Int)).toArray))).get? pool = _ := (Heap.get?_update_other _ _ (hpi_c hit hp)).trans hp
    refine hand_c (s := { s with heap := s.heap.update it (Obj.mapFields (fun fs => fs.extract 0 3 ++ (nx.map fun (n : Nat) => rawInt (n : Int)).toArray)) }) e1 hp1 hz fun h' t ht htt hi hk => ⟨.ref t, rfl, wpAny_pure ?_⟩
    exact h h' t (old_none e1 ht) htt hi fun b o hb e => hk b o hb ((Heap.get?_update_other _ _ (Ne.symm hb)).trans e)
  · rw [Array.size_append, sizeLine_eq]
    have a : ((nx.map fun (n : Nat) => rawInt (n : Int)).toArray).size = nx.length := by simp
    have : ((([Value.ref pool, rawInt ((1 : Nat) : Int), last] ++ ix.map fun (i : Nat) => rawInt (i : Int)).toArray).extract 0 3).size ≤ 3 := by
      rw [Array.size_extract]
      omega
    omega
theorem next_end {it pool : Addr} {items : Array Value} {last : Value} {ix : List Nat} {Q : Option Value → Shared → Prop} (hh : A.handled = none) (hit : s.heap.get? it = some (cObj pool 1 last ix)) (hp : s.heap.get? pool = some { cls := .type "tuple", data := .seq items })
    (hx : nextC items.size ix = none)
    (h : ∀ (h' : Heap), (∀ b o, b ≠ it → s.heap.get? b = some o → h'.get? b = some o) → Q none { s with heap := h' }) :
    wpAny (model prog w) A (pyNext (.ref it)) Q E s := by
  have hT : s.TypeIs (.ref it) "itertools.combinations" := ⟨_, hit, rfl⟩
  unfold pyNext
  refine wpAny_bind (wpAny_attempt (wpAny_callSpecial?_slot (name := Str.ofString "__next__") hT slot_c_next (wpAny_call_entry slot_c_next hT entry_c_next ?_ (args_c_next _))))
  show wpAny _ _ (field (.ref it) 0 >>= _) _ _ s
  refine wpAny_bind (wpAny_field hit rfl (x := .ref pool) rfl ?_)
  show wpAny _ _ (Builtin.Itertools.itNumbersFrom (.ref it) 3 >>= _) _ _ s
  refine wpAny_bind (nums_c hit ?_)
  show wpAny _ _ (Builtin.Itertools.itIntField (.ref it) 1 >>= _) _ _ s
  unfold Builtin.Itertools.itIntField
  refine wpAny_bind (wpAny_bind (wpAny_field hit rfl (x := rawInt 1) rfl ?_))
  refine wpAny_pure ?_
  show wpAny _ _ (Builtin.Itertools.itPoolItems (.ref pool) >>= fun xs => match nextC xs.size ix with | some next => (Builtin.Itertools.itSetNumbersFrom (.ref it) 3 next >>= fun _ => handC it pool next) | none => (setField (.ref it) 1 (rawInt 2) >>= fun _ => Builtin.Itertools.itStop)) _ _ s
  refine wpAny_bind ?_
  unfold Builtin.Itertools.itPoolItems
  refine wpAny_bind (wpAny_seqItems hp rfl ?_)
  refine wpAny_pure ?_
  rw [hx]
  refine wpAny_bind (wpAny_setField hit rfl (by simp) ?_)
  show wpAny _ _ (newExc (.type "StopIteration") [] >>= _) _ _ _
  refine wpAny_bind ?_
  simp only [newExc, newTuple]
  refine wpAny_bind (wpAny_newObj_type ?_ (by size_fits))
  refine wpAny_bind (m := firstArgMember _ _) (wpAny_of_eq (a := Value.none) (by first | rfl | (simp only [firstArgMember]; rfl)) ?_)
  refine wpAny_newObj_type ?_ (by size_fits)
  simp only [raiseNew]
  refine wpAny_bind (wpAny_handled ?_)
  first | rw [show A.in1.handled = none from hh] | rw [hh]
  refine wpAny_bind (wpAny_pure (wpAny_throw ?_))
  refine wpAny_bind (wpAny_isInstance (T := "StopIteration") (b := true) ⟨_, Heap.get?_push_size _ rfl, rfl⟩ PySem.isSubtype_stop ?_)
  refine wpAny_pure (h _ fun b o hb e => ?_)
  exact Heap.get?_push_of_some _ (Heap.get?_push_of_some _ ((Heap.get?_update_other _ _ (Ne.symm hb)).trans e))
end
end Cmb

namespace Cmb
open PySem PySem.Spec
open Sem (wp)
/-- the i-th step of the way through cs -/
def CSt (h : Heap) (I pool : Addr) (cs : List (List Nat)) : Nat → Prop
  | 0 => ∃ last ix, cs[0]? = some ix ∧ h.get? I = some (cObj pool 0 last ix)
  | j + 1 => ∃ last ix, cs[j]? = some ix ∧ h.get? I = some (cObj pool 1 last ix)
theorem CSt.there {h : Heap} {I pool : Addr} {cs : List (List Nat)} : ∀ {i : Nat}, CSt h I pool cs i → ∃ st last ix, h.get? I = some (cObj pool st last ix)
  | 0, ⟨_, _, _, e⟩ => ⟨_, _, _, e⟩
  | _ + 1, ⟨_, _, _, e⟩ => ⟨_, _, _, e⟩
theorem CSt.keep {h h' : Heap} {I pool : Addr} {cs : List (List Nat)} (k : ∀ o, h.get? I = some o → h'.get? I = some o) : ∀ {i : Nat}, CSt h I pool cs i → CSt h' I pool cs i
  | 0, ⟨_, _, e1, e⟩ => ⟨_, _, e1, k _ e⟩
  | _ + 1, ⟨_, _, e1, e⟩ => ⟨_, _, e1, k _ e⟩
structure MadeC (items : Array Value) (cs : List (List Nat)) (h₁ h : Heap) (as : List Addr) : Prop where
  new : ∀ a ∈ as, h₁.get? a = none
  uni : as.Nodup
  pairs : ∀ (j : Nat) (a : Addr), as[j]? = some a → ∃ ix, cs[j]? = some ix ∧ h.get? a = some { cls := .type "tuple", data := .seq (pickC items ix).toArray }
structure Chain (n : Nat) (cs : List (List Nat)) : Prop where
  some : cs ≠ []
  step : ∀ (j : Nat) (a : List Nat), cs[j]? = Option.some a → nextC n a = cs[j + 1]?
  few : cs.length ≤ 1000
  short : ∀ a ∈ cs, a.length ≤ 1000
section
variable {prog : Program} {w : World} {A : Around} {E : Value → Shared → Prop} {s : Shared}
theorem item_c {I pool : Addr} {items : Array Value} {cs : List (List Nat)} {i : Nat} {ix : List Nat} {Q : Option Value → Shared → Prop} (C : Chain items.size cs) (hst : CSt s.heap I pool cs i) (hp : s.heap.get? pool = some { cls := .type "tuple", data := .seq items })
    (hi : cs[i]? = some ix)
    (h : ∀ (h' : Heap) (t : Addr), s.heap.get? t = none → h'.get? t = some { cls := .type "tuple", data := .seq (pickC items ix).toArray } → CSt h' I pool cs (i + 1) →
      (∀ b o, b ≠ I → s.heap.get? b = some o → h'.get? b = some o) → Q (some (.ref t)) { s with heap := h' }) :
    wpAny (model prog w) A (pyNext (.ref I)) Q E s := by
  cases i with
  | zero =>
    obtain ⟨last, ix', e1, e⟩ := hst
    rw [hi] at e1
    cases e1
    exact next_first e hp (C.short _ (List.mem_of_getElem? hi)) fun h' t a b c d => h h' t a b ⟨_, _, hi, c⟩ d
  | succ j =>
    obtain ⟨last, ix', e1, e⟩ := hst
    have := C.step j ix' e1
    rw [hi] at this
    exact next_more e hp this (C.short _ (List.mem_of_getElem? hi)) fun h' t a b c d => h h' t a b ⟨_, _, hi, c⟩ d
theorem end_c {I pool : Addr} {items : Array Value} {cs : List (List Nat)} {Q : Option Value → Shared → Prop} (hh : A.handled = none) (C : Chain items.size cs) (hst : CSt s.heap I pool cs cs.length) (hp : s.heap.get? pool = some { cls := .type "tuple", data := .seq items })
    (h : ∀ (h' : Heap), (∀ b o, b ≠ I → s.heap.get? b = some o → h'.get? b = some o) → Q none { s with heap := h' }) :
    wpAny (model prog w) A (pyNext (.ref I)) Q E s := by
  cases e : cs.length with
  | zero => exact absurd (List.length_eq_zero_iff.mp e) C.some
  | succ j =>
    rw [e] at hst
    obtain ⟨last, ix', e1, e2⟩ := hst
    have := C.step j ix' e1
    rw [List.getElem?_eq_none (by omega)] at this
    exact next_end hh e2 hp this h
theorem loop_c {R : Result → Shared → Prop} {S I pool : Addr} {items : Array Value} {cs : List (List Nat)} (hh : A.handled = none) (C : Chain items.size cs) (hSI : S ≠ I) (hSp : pool ≠ S) (res : Value) {h₁ : Heap}
    {oS oI : Obj} (hS1 : h₁.get? S = some oS) (hI1 : h₁.get? I = some oI)
    (hR : ∀ h' acc c as, (∀ b o, b ≠ S → b ≠ I → h₁.get? b = some o → h'.get? b = some o) → h'.get? S = some { cls := .type "list", dict := none, data := .seq acc c, slots := #[] } → as.length = cs.length → MadeC items cs h₁ h' as →
      acc.toList = as.map Value.ref → R (.ok (.ret res)) { s with heap := h' }) :
    ∀ (k i : Nat) (h : Heap) (c : Nat) (acc : Array Value) (as : List Addr), cs.length - i = k → i ≤ cs.length → CSt h I pool cs i → h.get? pool = some { cls := .type "tuple", data := .seq items } →
      (∀ b o, b ≠ S → b ≠ I → h₁.get? b = some o → h.get? b = some o) →
      h.get? S = some { cls := .type "list", dict := none, data := .seq acc c, slots := #[] } → acc.toList = as.map Value.ref → as.length = i → MadeC items cs h₁ h as →
      codeAny (model prog w) A (.builtin "list.extend.loop" ⟨[.ref S, .ref I, res], []⟩) R { s with heap := h } := by
  intro k
  induction k with
  | zero =>
    intro i h c acc as hk hi hst hp hkeep hS hacc hal hG
    have hin : i = cs.length := by omega
    subst hin
    refine codeAny_builtin F.entry_extend_loop ?_
    rw [Around.under_plainId F.plain_extend_loop _]
    show wpAny _ A.in1 (pyNext (.ref I) >>= _) _ _ _
    refine wpAny_bind (end_c (s := { s with heap := h }) (A := A.in1) hh C hst hp fun h' hk' => ?_)
    have nI : ∀ a ∈ as, a ≠ I := fun a ha z => by have := hG.new a ha; rw [z, hI1] at this; cases this
    refine wpAny_pure (hR h' acc c as (fun b o h1 h2 e => hk' b o h2 (hkeep b o h1 h2 e)) (hk' S _ hSI hS) hal ⟨hG.new, hG.uni, fun j a hj => ?_⟩ hacc)
    obtain ⟨ix, e1, e2⟩ := hG.pairs j a hj
    exact ⟨ix, e1, hk' a _ (nI a (List.mem_of_getElem? hj)) e2⟩
  | succ k ih =>
    intro i h c acc as hk hi hst hp hkeep hS hacc hal hG
    have hlt : i < cs.length := by omega
    obtain ⟨ix, hix⟩ : ∃ ix, cs[i]? = some ix := ⟨_, List.getElem?_eq_getElem hlt⟩
    have hsz : acc.size = i := by rw [← Array.length_toList, hacc, List.length_map, hal]
    have few := C.few
    obtain ⟨st, la, ixx, hI⟩ := hst.there
    refine codeAny_builtin F.entry_extend_loop ?_
    rw [Around.under_plainId F.plain_extend_loop _]
    show wpAny _ A.in1 (pyNext (.ref I) >>= _) _ _ _
    refine wpAny_bind (item_c (s := { s with heap := h }) C hst hp hix fun h' t ht htt hst' hk' => ?_)
    dsimp only at ht hk' ⊢
    have hS' := hk' S _ hSI hS
    have tS : t ≠ S := fun z => by rw [z, hS] at ht; cases ht
    have tI : t ≠ I := fun z => by rw [z, hI] at ht; cases ht
    have nI : ∀ a ∈ as, a ≠ I := fun a ha z => by have := hG.new a ha; rw [z, hI1] at this; cases this
    have nS : ∀ a ∈ as, a ≠ S := fun a ha z => by have := hG.new a ha; rw [z, hS1] at this; cases this
    have up : ∀ b o, b ≠ S → h'.get? b = some o → (h'.update S (Obj.mapSeq (·.push (Value.ref t)))).get? b = some o := fun b o hb e => (Heap.get?_update_other _ _ (Ne.symm hb)).trans e
    have pI : pool ≠ I := fun z => by
      rw [z, hI] at hp
      have z : some (Value.type "itertools.combinations") = some (Value.type "tuple") := congrArg (Option.map Obj.cls) hp
      simp at z
    show wpAny _ A.in1 (updateSeq S (·.push (Value.ref t)) >>= _) _ _ _
    refine wpAny_bind ?_
    refine wpAny_updateSeq hS' rfl (wpAny_pure ⟨plainId_quiet F.plain_extend_loop _, ih (i + 1) _ _ (acc.push (Value.ref t)) (as ++ [t]) (by omega) hlt (hst'.keep fun o e => up I o (Ne.symm hSI) e) (up pool _ hSp (hk' pool _ pI hp))
      (fun b o h1 h2 e => up b o h1 (hk' b o h2 (hkeep b o h1 h2 e))) (Heap.get?_update_self _ hS' rfl) ?_ ?_ ⟨?_, ?_, ?_⟩⟩) ?_ ?_
    · rw [Array.toList_push, hacc, List.map_append]
      rfl
    · rw [List.length_append, hal]
      rfl
    · intro a ha
      rcases List.mem_append.mp ha with ha | ha
      · exact hG.new a ha
      · rw [List.mem_singleton.mp ha]
        cases e : h₁.get? t with
        | none => rfl
        | some o => rw [hkeep t o tS tI e] at ht; cases ht
    · refine List.nodup_append.mpr ⟨hG.uni, by simp, ?_⟩
      intro a ha b hb z
      rw [List.mem_singleton.mp hb] at z
      obtain ⟨j, hj⟩ := List.mem_iff_getElem?.mp ha
      obtain ⟨_, _, e⟩ := hG.pairs j a hj
      rw [z, ht] at e
      cases e
    · intro j b hj
      rcases Nat.lt_trichotomy j as.length with h1 | h1 | h1
      · rw [List.getElem?_append_left h1] at hj
        obtain ⟨e', e1, e3⟩ := hG.pairs j b hj
        have hb := List.mem_of_getElem? hj
        exact ⟨e', e1, up b _ (nS b hb) (hk' b _ (nI b hb) e3)⟩
      · subst h1
        have hb : t = b := by simpa using hj
        subst hb
        exact ⟨ix, by rw [hal]; exact hix, up _ _ tS htt⟩
      · have hnone : (as ++ [t])[j]? = none := List.getElem?_eq_none (by rw [List.length_append, List.length_singleton]; omega)
        rw [hnone] at hj
        cases hj
    · rw [hsz, sizeLine_eq]
      omega
    · show (acc.push (Value.ref t)).size ≤ sizeLine + 1
      rw [Array.size_push, hsz, sizeLine_eq]
      omega
end
end Cmb

namespace Cmb
open PySem PySem.Spec
open Sem (wp)
section
variable {prog : Program} {w : World} {A : Around} {E : Value → Shared → Prop} {s : Shared}
theorem iter_c {I pool : Addr} {st : Nat} {last : Value} {ix : List Nat} {Q : Value → Shared → Prop} (hit : s.heap.get? I = some (cObj pool st last ix)) (h : Q (.ref I) s) : wpAny (model prog w) A (pyIter (.ref I)) Q E s := by
  have hT : s.TypeIs (.ref I) "itertools.combinations" := ⟨_, hit, rfl⟩
  refine wpAny_pyIter_slot hT slot_c_iter (wpAny_call_entry slot_c_iter hT entry_c_iter ?_ (args_c_iter _))
  show wpAny _ _ (ret (.ref I)) _ _ s
  exact wpAny_pure ⟨_, rfl, "itertools.combinations", _, hT, slot_c_next.lookup, h⟩
theorem MadeC.back {items : Array Value} {cs : List (List Nat)} {h₀ h₁ h : Heap} {as : List Addr} (g : MadeC items cs h₁ h as) (k : ∀ b o, h₀.get? b = some o → ∃ o', h₁.get? b = some o') : MadeC items cs h₀ h as :=
  ⟨(fun a ha => by
    cases e : h₀.get? a with
    | none => rfl
    | some o =>
      obtain ⟨o', e'⟩ := k _ _ e
      rw [g.new a ha] at e'
      exact absurd e' (by simp)), g.uni, g.pairs⟩
theorem collect_c {I pool : Addr} {items : Array Value} {cs : List (List Nat)} {Q : List Value → Shared → Prop} (hh : A.handled = none) (C : Chain items.size cs) (hst : CSt s.heap I pool cs 0) (hp : s.heap.get? pool = some { cls := .type "tuple", data := .seq items })
    (hQ : ∀ (h' : Heap) (as : List Addr), (∀ b o, b ≠ I → s.heap.get? b = some o → h'.get? b = some o) → as.length = cs.length → MadeC items cs s.heap h' as → Q (as.map Value.ref) { s with heap := h' }) :
    wpAny (model prog w) A (collect (.ref I)) Q E s := by
  obtain ⟨last, ix, hc0, hI⟩ := id hst
  have hIlt : I < s.heap.objs.size := Heap.lt_size hI
  have hSI : s.heap.objs.size ≠ I := Nat.ne_of_gt hIlt
  have hSp : pool ≠ s.heap.objs.size := Nat.ne_of_lt (Heap.lt_size hp)
  unfold collect
  refine wpAny_bind (wpAny_runValue (codeAny_builtin F.entry_proto_collect ?_))
  rw [Around.under_plainId F.plain_proto_collect _]
  show wpAny _ A.in1 (newList [] >>= fun l => again (.builtin "list.__iadd__" ⟨[l, .ref I], []⟩)) _ _ s
  refine wpAny_bind (wpAny_newObj_type ?_)
  refine wpAny_pure ⟨plainId_quiet F.plain_list_iadd _, codeAny_builtin F.entry_list_iadd ?_⟩
  rw [Around.under_plainId F.plain_list_iadd _]
  have hI1 : (s.heap.push { cls := .type "list", data := .seq ([] : List Value).toArray }).get? I = _ := Heap.get?_push_of_some _ hI
  have hT1 : Shared.TypeIs { s with heap := s.heap.push { cls := .type "list", data := .seq ([] : List Value).toArray } } (.ref I) "itertools.combinations" := ⟨_, hI1, rfl⟩
  show wpAny _ A.in1 (Builtin.List.listExtendWith (.ref s.heap.objs.size) (.ref I) (.ref s.heap.objs.size)) _ _ _
  unfold Builtin.List.listExtendWith
  refine wpAny_bind (wpAny_typeOf hT1 ?_)
  have h1 : Builtin.List.listSameRef (.ref s.heap.objs.size) (.ref I) = false := by simp [Builtin.List.listSameRef, hSI]
  have h2 : (Value.type "itertools.combinations" == Value.type "list") = false := by decide
  have h3 : (Value.type "itertools.combinations" == Value.type "tuple") = false := by decide
  simp only [h1, h2, h3, Bool.or_false, Bool.false_eq_true, if_false]
  refine wpAny_bind (iter_c hI1 ?_)
  refine wpAny_bind (wpAny_holding ?_)
  unfold Builtin.List.listLengthHint
  refine wpAny_bind (wpAny_specialOf hT1 noLen_c ?_)
  show wpAny _ A.in1 (specialOf (Value.ref I) (Str.ofString "__length_hint__") >>= _) _ _ _
  refine wpAny_bind (wpAny_specialOf hT1 noHint_c ?_)
  refine wpAny_pure ?_
  show wpAny _ A.in1 (rule "list.extend.makes-room" >>= fun _ => Builtin.List.listTouch (.ref s.heap.objs.size) >>= fun _ =>
    again (.builtin "list.extend.loop" ⟨[.ref s.heap.objs.size, .ref I, .ref s.heap.objs.size], []⟩)) _ _ _
  refine wpAny_bind (wpAny_rule ?_)
  have hS₁ : (s.heap.push { cls := .type "list", data := .seq ([] : List Value).toArray }).get? s.heap.objs.size = some { cls := .type "list", data := .seq ([] : List Value).toArray } := Heap.get?_push_size _ rfl
  refine wpAny_bind ?_
  show wpAny _ A.in1 (updateSeq s.heap.objs.size (·.push .none) >>= fun _ => updateSeq s.heap.objs.size (·.pop)) _ _ _
  refine wpAny_bind (wpAny_updateSeq hS₁ rfl ?_)
  have hS₂ := Heap.get?_update_self (Obj.mapSeq (·.push Value.none)) hS₁ rfl
  refine wpAny_updateSeq hS₂ rfl ?_
  have hS₃ := Heap.get?_update_self (Obj.mapSeq (·.pop)) hS₂ rfl
  have oth : ∀ b o, b ≠ s.heap.objs.size → (s.heap.push { cls := .type "list", data := .seq ([] : List Value).toArray }).get? b = some o →
      (((s.heap.push { cls := .type "list", data := .seq ([] : List Value).toArray }).update s.heap.objs.size (Obj.mapSeq (·.push Value.none))).update s.heap.objs.size (Obj.mapSeq (·.pop))).get? b = some o :=
    fun b o hb e => (Heap.get?_update_other _ _ (Ne.symm hb)).trans ((Heap.get?_update_other _ _ (Ne.symm hb)).trans e)
  have old : ∀ b o, s.heap.get? b = some o → (((s.heap.push { cls := .type "list", data := .seq ([] : List Value).toArray }).update s.heap.objs.size (Obj.mapSeq (·.push Value.none))).update s.heap.objs.size (Obj.mapSeq (·.pop))).get? b = some o :=
    fun b o e => oth b o (Nat.ne_of_lt (Heap.lt_size e)) (Heap.get?_push_of_some _ e)
  refine wpAny_pure ⟨plainId_quiet F.plain_extend_loop _, loop_c (s := s) (A := A) hh C hSI hSp _ hS₃ (old I _ hI) (fun h' acc c as hk hS' hl hG hacc => ?_) cs.length 0 _ _ _ [] rfl (Nat.zero_le _) ⟨last, ix, hc0, old I _ hI⟩ (old pool _ hp)
    (fun b o _ _ e => e) hS₃ rfl rfl ⟨(fun a ha => nomatch ha), List.nodup_nil, (fun j a hj => by simp at hj)⟩⟩
  show wpAny _ A (load s.heap.objs.size >>= _) _ _ _
  refine wpAny_bind (wpAny_load hS' ?_)
  refine wpAny_pure ?_
  show Q acc.toList _
  rw [hacc]
  exact hQ h' as (fun b o hb e => hk b o (Nat.ne_of_lt (Heap.lt_size e)) hb (old b o e)) hl (hG.back fun b o e => ⟨o, old b o e⟩)
theorem code_tuple_c {Q₁ : Value → Shared → Prop} {I pool : Addr} {items : Array Value} {cs : List (List Nat)} (hh : A.handled = none) (C : Chain items.size cs) (hst : CSt s.heap I pool cs 0) (hp : s.heap.get? pool = some { cls := .type "tuple", data := .seq items })
    (h : ∀ (h' : Heap) (as : List Addr), (∀ b o, b ≠ I → s.heap.get? b = some o → h'.get? b = some o) → as.length = cs.length → MadeC items cs s.heap h' as → Q₁ (.ref h'.objs.size) { s with heap := h'.push { cls := .type "tuple", data := .seq (as.map Value.ref).toArray } }) :
    codeAny (model prog w) A (.call (.builtin "tuple.__new__") ⟨[.type "tuple", .ref I], []⟩) (wants Q₁ E) s := by
  obtain ⟨st, last, ix, hI⟩ := hst.there
  refine codeAny_of_tree ?_
  show wpAny _ A.in1 (do checkBuiltinCall "tuple.__new__" ⟨[.type "tuple", .ref I], []⟩; again (.builtin "tuple.__new__" ⟨[.type "tuple", .ref I], []⟩)) _ _ s
  refine wpAny_bind (wpAny_of_eq (F.newCall_tuple_1 _) (wpAny_pure ⟨plainId_quiet F.plain_tuple_new _, codeAny_builtin F.entry_tuple_new ?_⟩))
  rw [Around.under_plainId F.plain_tuple_new _]
  have hsub := sub_tuple_self
  have hinit := init_tuple_lookup
  have hmh := madeHere_tuple
  have hTI : s.TypeIs (.ref I) "itertools.combinations" := ⟨_, hI, rfl⟩
  wp_walk using wpAny_typeOf hTI, collect_c (A := A.in1) hh C hst hp
  intro h' as hk hl hG
  show wpAny _ _ (Builtin.Tuple.tupleExact (as.map Value.ref).toArray >>= fun v => ret v) _ _ _
  unfold Builtin.Tuple.tupleExact
  refine wpAny_bind (wpAny_newObj_type ?_ (by show (as.map Value.ref).toArray.size ≤ sizeLine; have := C.few; rw [List.size_toArray, List.length_map, hl, sizeLine_eq]; omega))
  exact wpAny_pure (h h' as hk hl hG)
theorem call_tuple_c {Q : Value → Shared → Prop} {I pool : Addr} {items : Array Value} {cs : List (List Nat)} (hh : A.handled = none) (C : Chain items.size cs) (hst : CSt s.heap I pool cs 0) (hp : s.heap.get? pool = some { cls := .type "tuple", data := .seq items })
    (h : ∀ (h' : Heap) (as : List Addr), (∀ b o, b ≠ I → s.heap.get? b = some o → h'.get? b = some o) → as.length = cs.length → MadeC items cs s.heap h' as → Q (.ref h'.objs.size) { s with heap := h'.push { cls := .type "tuple", data := .seq (as.map Value.ref).toArray } }) :
    wpAny (model prog w) A (call (.type "tuple") [.ref I]) Q E s := by
  refine callType_codes (Q₁ := fun obj s₁ => s₁.TypeIs obj "tuple" ∧ Q obj s₁) F.called_tuple (F.typeCall_tuple_1 _) F.entry_object_init
    (code_tuple_c (A := A.in1) hh C hst hp fun h' as a b c => ⟨⟨_, Heap.get?_push_size _ rfl, rfl⟩, h h' as a b c⟩) fun obj s₁ h₁ => ?_
  exact ⟨h₁.1, F.args_object_init_2 obj _, object_init_meets F.called_tuple.init.lookup F.called_tuple.made (by decide) prog w A.in1 _ s₁ ⟨h₁.1, rfl, h₁.2⟩⟩
end
end Cmb

namespace Cmb
open PySem PySem.Spec PyProof.Rows L2
/-- the tuples tracked where they lie -/
def putV : Hp → List Addr → List (List V) → Hp
  | H, a :: as, xs :: xss => putV (upd H a (.tup xs)) as xss
  | H, _, _ => H
theorem putV_off {b : Addr} : ∀ (as : List Addr) (xss : List (List V)) (H : Hp), b ∉ as → putV H as xss b = H b
  | [], _, _, _ => rfl
  | _ :: _, [], _, _ => rfl
  | a :: as, xs :: xss, H, h => by
    show putV (upd H a (.tup xs)) as xss b = H b
    rw [putV_off as xss _ (fun z => h (List.mem_cons_of_mem _ z)), upd_ne (fun z => h (by rw [z]; exact List.mem_cons_self))]
theorem putV_at : ∀ (as : List Addr) (xss : List (List V)) (H : Hp) (j : Nat) (a : Addr) (xs : List V), as.Nodup → as[j]? = some a → xss[j]? = some xs → putV H as xss a = some (.tup xs)
  | [], _, _, _, _, _, _, h, _ => by simp at h
  | _ :: _, [], _, _, _, _, _, _, h => by simp at h
  | b :: as, ys :: xss, H, 0, a, xs, hn, h1, h2 => by
    have e1 : b = a := by simpa using h1
    have e2 : ys = xs := by simpa using h2
    subst e1 e2
    show putV (upd H b (.tup ys)) as xss b = some (.tup ys)
    rw [putV_off as xss _ (List.nodup_cons.mp hn).1, upd_same]
  | b :: as, ys :: xss, H, j + 1, a, xs, hn, h1, h2 => putV_at as xss _ j a xs (List.nodup_cons.mp hn).2 (by simpa using h1) (by simpa using h2)
theorem ok_there {P : Program} {w : World} {H : Hp} {h : Heap} {a : Addr} {o : HO} (x : ObjOk P w H h a o) : ∃ u, h.get? a = some u := by
  induction o with
  | lst xs => obtain ⟨_, _, _, _, e⟩ := x; exact ⟨_, e⟩
  | tup xs => obtain ⟨_, _, _, ob, e, _⟩ := x; exact ⟨_, e⟩
  | dK kvs => obtain ⟨_, _, _, _, o, _, _, e, _⟩ := x; exact ⟨_, e⟩
  | dT kvs => obtain ⟨_, _, _, _, o, _, _, e, _⟩ := x; exact ⟨_, e⟩
  | set S n => obtain ⟨o, _, _, _, e, _⟩ := x; exact ⟨_, e⟩
  | ins C dx fs => obtain ⟨_, _, _, e, _⟩ := x; exact ⟨_, e⟩
  | own y => obtain ⟨_, e⟩ := x; exact ⟨_, e⟩
  | xd fs => obtain ⟨_, ⟨_, _, _, e, _⟩, _⟩ := x; exact ⟨_, e⟩
  | rng lo hi => obtain ⟨_, _, _, e⟩ := x; exact ⟨_, e⟩
  | frz ob u ih => obtain ⟨e, _⟩ := x; exact ⟨_, e⟩
  | tbl ps => exact ⟨_, (show h.get? a = some _ from x)⟩
  | met f y => exact ⟨_, (show h.get? a = some _ from x)⟩
  | ext φ => obtain ⟨_, e, _⟩ := x; exact e
section
variable {X : Cx} {pins : List (Addr × Obj)} {σ : L2.St} {H : Hp} {s : Shared}
theorem free_of (I : Inv X pins σ H s) {a : Addr} (e : s.heap.get? a = none) : H a = none := by
  cases q : H a with
  | none => rfl
  | some o =>
    obtain ⟨u, hu⟩ := ok_there (I.hok a o q)
    rw [e] at hu
    cases hu
theorem tups_laid {h' : Heap} {as : List Addr} {xss : List (List V)} (I : Inv X pins σ H s) (hk : ∀ b o, s.heap.get? b = some o → h'.get? b = some o) (new : ∀ a ∈ as, s.heap.get? a = none) (nd : as.Nodup)
    (each : ∀ (j : Nat) (a : Addr), as[j]? = some a → ∃ xs its, xss[j]? = some xs ∧ xs.length ≤ sizeLine ∧ Vals xs its ∧ h'.get? a = some { cls := .type "tuple", data := .seq its.toArray }) :
    Inv X pins σ (putV H as xss) { s with heap := h' } := by
  have newH : ∀ t ∈ as, H t = none := fun t ht => free_of I (new t ht)
  have off : ∀ b, b ∉ as → putV H as xss b = H b := fun b h1 => putV_off as xss H h1
  have low : ∀ b o, s.heap.get? b = some o → b ∉ as := fun b o e z => by rw [new b z] at e; cases e
  have kp : ∀ b u, H b = some u → (putV H as xss) b = some u := fun b u e => by
    rw [off b (fun z => by rw [newH b z] at e; cases e)]
    exact e
  refine I.call' (ch := []) rfl ⟨fun b o q _ _ _ => hk b o q, fun b o q _ _ _ => ⟨o.slots, hk b o q⟩, fun b o q n _ => ?_, fun b o q _ => ⟨o, hk b o q⟩, fun b xs q => kp b _ q, fun b o u q => kp b _ q, fun b ps q => ⟨#[], by rw [kp b _ q]; simp⟩⟩ (fun b u q => ?_) I.bare fun b z => by simp at z
  · rw [off b (low b o q)]
    exact n
  · by_cases hb : b ∈ as
    · obtain ⟨j, e1⟩ := List.mem_iff_getElem?.mp hb
      obtain ⟨xs, its, e2, hz, rv, e3⟩ := each j b e1
      rw [putV_at as xss H j b xs nd e1 e2] at q
      cases q
      exact ⟨hz, its, rv, ⟨_, e3, rfl, _, rfl⟩⟩
    · rw [off b hb] at q
      exact (I.hok b u q).stay (fun d v _ y => hk d v y) (fun d y => kp d _ y) fun d xs y => kp d _ y
end
def tTupC (K : PySem.W.Frag) (t : TA) : TE := fun σ H Q => t σ H fun vs H2 => ∃ (l : Addr) (xs : List V) (r : Nat) (cs : List (List Nat)), vs = [.ref l, .int (r : Int)] ∧ SqL K H2 l xs ∧ r ≤ xs.length ∧ xs.length ≤ 1000 ∧ cs[0]? = some (List.range r) ∧ Chain xs.length cs ∧ (∀ ix ∈ cs, ∀ i ∈ ix, i < xs.length) ∧
  ∀ (H' : Hp) (p : Addr) (ts : List Addr), (∀ b o, H2 b = some o → H' b = some o) → H' p = some (.tup (ts.map V.ref)) → ts.length = cs.length → (∀ (j : Nat) (t : Addr) (ix : List Nat), ts[j]? = some t → cs[j]? = some ix → H' t = some (.tup (ix.map fun i => xs.getD i .non))) → Q (.ref p) H'
theorem vals_refs : ∀ as : List Addr, Vals (as.map V.ref) (as.map Value.ref)
  | [] => .nil
  | _ :: as => .cons rfl (vals_refs as)
theorem vals_pick {xs : List V} {its : List Value} (r : Vals xs its) : ∀ ix : List Nat, (∀ i ∈ ix, i < xs.length) → Vals (ix.map fun i => xs.getD i .non) (pickC its.toArray ix)
  | [], _ => .nil
  | i :: ix, h => by
    have hi := h i List.mem_cons_self
    obtain ⟨u, hu, ru⟩ := r.get (List.getElem?_eq_getElem hi)
    refine .cons ?_ (vals_pick r ix fun j hj => h j (List.mem_cons_of_mem _ hj))
    have e1 : xs.getD i .non = xs[i] := by simp [List.getD_eq_getElem?_getD, hi]
    have e2 : its.toArray.getD i .none = u := by simp [Array.getD_eq_getD_getElem?, hu]
    show RelV (xs.getD i .non) (its.toArray.getD i .none)
    rw [e1, e2]
    exact ru
section
variable {X : Cx}
/-- tuple(combinations(a, b)) -/
theorem pe_tupComb {a b : Expr} {t : TA} {p p2 q pos : Pos} (hc : X.calm = true) (hg : Gl X "tuple") (hm : X.mg "tuple" = none) (hg2 : Gl X "combinations") (hm2 : X.mg "combinations" = some (.type "itertools.combinations")) (ha : PA X [a, b] t)
    (he : starEach [a, b] X.env = (false, eval a X.env) :: starEach [b] X.env := by rfl) (hpl : (backTo q (starEach [b] X.env)).any (·.1) = false := by rfl) :
    PE X (.Call (.Name "tuple" p) [.Call (.Name "combinations" p2) [a, b] [] q] [] pos) (tTupC X.K t) := by
  refine ⟨fun pins s σ H Q I h => ?_⟩
  refine Call_ (ld_blt I hg hm boot_tuple ?_)
  refine PyProof.Rows.callWith_type1 (PyProof.Rows.args_cons ?_ rfl) rfl rfl
  refine Call_ (ld_glob I hg2 hm2 ?_)
  refine PyProof.Rows.callWith_type1 (thn (ha.run q pins s σ H _ I h) fun us s1 ⟨vs, H1, I1, r1, q1⟩ => ?_) he hpl
  obtain ⟨l, xs, r, cs, rfl, hq, hr, hz, c0, C, inn, q1⟩ := q1
  cases r1 with
  | cons ra r2 =>
  cases r2 with
  | cons rb r3 =>
  cases r3
  cases ra
  obtain ⟨tk, rfl⟩ := rb
  obtain ⟨its, rv, pl, _⟩ := I1.list hq
  have hlen := rv.length
  have hsz : its.toArray.size = xs.length := by rw [List.size_toArray, hlen]
  refine call_c pl.isList (by omega) (by omega) fun h1 pool k1 hp hpn hn1 => ?_
  refine PyProof.Rows.args_nil ?_
  rw [← hsz] at C
  have hI1 : (h1.push (cObj pool 0 .none (List.range r))).get? h1.objs.size = some (cObj pool 0 .none (List.range r)) := Heap.get?_push_size _ rfl
  refine call_tuple_c (I1.ok.hd hc) C (I := h1.objs.size) (pool := pool) (items := its.toArray) ⟨_, _, c0, hI1⟩ (Heap.get?_push_of_some _ hp) fun h2 as k2 hl hG => ?_
  dsimp only at k2 hG ⊢
  have old : ∀ b o, s1.heap.get? b = some o → h2.get? b = some o := fun b o e => k2 b o (fun z => by rw [z] at e; have := k1 _ _ e; rw [hn1] at this; cases this) (Heap.get?_push_of_some _ (k1 b o e))
  have new : ∀ a ∈ as, s1.heap.get? a = none := fun a ha => by
    cases e : s1.heap.get? a with
    | none => rfl
    | some o =>
      have := hG.new a ha
      rw [Heap.get?_push_of_some _ (k1 a o e)] at this
      cases this
  have I2 := tups_laid (h' := h2) (as := as) (xss := cs.map fun ix => ix.map fun i => xs.getD i .non) I1 old new hG.uni (fun j a e => by
    obtain ⟨ix, e1, e2⟩ := hG.pairs j a e
    have mem := List.mem_of_getElem? e1
    refine ⟨_, _, by rw [List.getElem?_map, e1]; rfl, ?_, vals_pick rv ix (inn ix mem), e2⟩
    rw [List.length_map, sizeLine_eq]
    have := C.short ix mem
    omega)
  have fp := I2.hok.fresh (Nat.le_refl h2.objs.size)
  have lz : (as.map V.ref).length ≤ sizeLine := by
    have := C.few
    rw [List.length_map, hl, sizeLine_eq]
    omega
  have I3 := I2.laid (t' := s1.toks) (a := h2.objs.size) (o := .tup (as.map V.ref)) (h' := h2.push { cls := .type "tuple", data := .seq (as.map Value.ref).toArray }) (fun b o e => Heap.get?_push_of_some _ e) (Nat.le_refl _)
    ⟨lz, as.map Value.ref, vals_refs as, IsTup.new _ _⟩
  have newH : ∀ t ∈ as, H1 t = none := fun t ht => free_of I1 (new t ht)
  refine ⟨.ref h2.objs.size, _, I3, rfl, q1 _ _ as (fun b o e => ?_) upd_same hl fun j t ix e1 e2 => ?_⟩
  · have e' : putV H1 as (cs.map fun ix => ix.map fun i => xs.getD i .non) b = some o := by
      rw [putV_off as _ H1 (fun z => by rw [newH b z] at e; cases e)]
      exact e
    rw [upd_ne (fun z => by rw [z, fp] at e'; cases e')]
    exact e'
  · have e' := putV_at as (cs.map fun ix => ix.map fun i => xs.getD i .non) H1 j t _ hG.uni e1 (by rw [List.getElem?_map, e2]; rfl)
    rw [upd_ne (fun z => by rw [z, fp] at e'; cases e')]
    exact e'
end
end Cmb

/-! M11: dict comprehensions of one clause, nothing left out -/
namespace Sd
open PySem PySem.Spec PyProof.Rows L2
section
variable {J : It} {n : Nat} {G : Hp → Prop} {Y : Nat → Hp → V → Hp → Prop}
theorem dc_map (w : Walk J n G Y) {g : TG} {tk tv : TE} {vs : List Nat} {σ : L2.St} {H1 : Hp} {D : Addr} {Qd : Hp → Prop} (P : Nat → List (Key × V) → Hp → Prop)
    (hy : Yk Y) (hD : H1 D = none) (gG : ∀ H, Go [] H1 H → G H) (p0 : P 0 [] H1) (pm : ∀ i kvs N H H', Go N H H' → P i kvs H → P i kvs H') (pz : ∀ i kvs H, P i kvs H → kvs.length ≤ 100000)
    (turn : ∀ i x H H' kvs (Fin : V → V → Hp → Prop), i < n → Go [] H1 H → P i kvs H → Y i H x H' → Go [] H H' → (∀ k z H5, Go [] H' H5 → P (i + 1) (putK kvs k z) H5 → Fin (kV k) z H5) →
      g x (wipe σ vs) H' fun σ2 H2 => wipe σ2 vs = wipe σ vs ∧ tk σ2 H2 fun y H4 => tv σ2 H4 fun z H5 => Fin y z H5)
    (done : ∀ H kvs, Go [] H1 H → P n kvs H → H D = some (.dK kvs) → Qd H) :
    ∃ W : Nat → Nat → Hp → Prop, (∃ m, W 0 m (upd H1 D (.dK []))) ∧ ∀ i m H, W i m H →
      (J.stop i H ∧ Qd H) ∨ (J.go i H ∧ ∃ Nx : Hp → Prop, (∀ H', Nx H' → ∃ m', m' < m ∧ W (i + 1) m' H') ∧ ∀ x H', J.yld i H x H' → g x (wipe σ vs) H' fun σ2 H2 => wipe σ2 vs = wipe σ vs ∧ tYes σ2 H2 fun b H3 =>
        if b = true then tk σ2 H3 fun y H4 => tv σ2 H4 fun z H5 => ∃ kvs k, y = kV k ∧ H5 D = some (.dK kvs) ∧ kvs.length < sizeLine ∧ Nx (upd H5 D (.dK (putK kvs k z))) else Nx H3) := by
  refine ⟨fun i m H => m = n - i ∧ i ≤ n ∧ ∃ kvs, Go [] H1 H ∧ P i kvs H ∧ H D = some (.dK kvs), ⟨n, by simp, Nat.zero_le _, [], (Go.refl [] H1).mut hD, pm _ _ [] _ _ ((Go.refl [] H1).mut hD) p0, upd_same⟩, ?_⟩
  rintro i m H ⟨rfl, hi, kvs, gH, p, d⟩
  have q := gG H gH
  by_cases hlt : i < n
  · refine .inr ⟨w.goes i H hlt q, fun H' => ∃ kvs, Go [] H1 H' ∧ P (i + 1) kvs H' ∧ H' D = some (.dK kvs), fun H' p' => ⟨n - (i + 1), by omega, rfl, hlt, p'⟩, fun x H' y => ?_⟩
    have yy := w.yields i H x H' hlt q y
    have gy := hy i H x H' yy
    refine turn i x H H' kvs _ hlt gH p yy gy ?_
    intro k z H5 g5 p5
    have d5 : H5 D = some (.dK kvs) := g5.old D _ (fun z => nomatch z) (gy.old D _ (fun z => nomatch z) d)
    have gD : Go [D] H5 (upd H5 D (.dK (putK kvs k z))) := Go.put d5 rfl (List.Mem.head _)
    exact ⟨kvs, k, rfl, d5, Nat.lt_of_le_of_lt (pz _ _ _ p) (by decide), putK kvs k z, ((gH.trans gy).trans g5).mut hD, pm _ _ _ _ _ gD p5, upd_same⟩
  · have e : i = n := by omega
    subst e
    exact .inl ⟨w.stops H q, done H kvs gH p d⟩
end
end Sd

/-! M12: methods by their class -/
namespace Sd
open PySem PySem.Spec PyProof.Rows L2
/-- a method as the top left it -/
structure MtAt (c : Wd) (C : Addr) (m qual : Str) (st : Stmt) (ps : List Str) : Prop where
  ex : ∃ (f : Addr) (fd : FuncData), Meth c.K C m f ∧ Fun c.K m qual st f fd ∧ Binds c.K fd ps []
  cls : Cls c.K C
/-- a method that keeps its promise -/
def MtO (c : Wd) (C : Addr) (m : Str) (k : Nat) (ps : List Str) (sp : Sp) : Prop :=
  ∃ (f : Addr) (fd : FuncData), Cls c.K C ∧ Meth c.K C m f ∧ Binds c.K fd ps [] ∧ FnOk c.P c.w c.K c.mg c.base (L2.CX c.P c.w) k f fd ps sp
theorem mt_of {c : Wd} {m qual : Str} {C : Addr} {st : Stmt} {N ps : List Str} {k : Nat} {sp : Sp} (F : MtAt c C m qual st ps) (S : FnScope N ps (defScope st))
    (len : ∀ vs H Q E, sp vs H Q E → vs.length = ps.length)
    (h : ∀ (f : Addr) (cdv : Value) (A : Around) (out : List Env) (s : Shared) (H : Hp) (vs : List V) (Q : VK) (E : XK), Room k (A.deeper (envOfC qual (defScope st) s.heap.objs.size f cdv)) → sp vs H Q E →
      ∃ t, PSs (cxN c N qual st f cdv A out s H E).nox (defBody st) t ∧ t { nx := fun _ H' => Q .non H', rt := Q } (L2.start N vs) H) : MtO c C m (k + 1) ps sp := by
  obtain ⟨f, fd, h1, h3, h4⟩ := F.ex
  refine ⟨f, fd, F.cls, h1, h4, h3.okX S len fun cdv A out s H vs Q E hr q => ?_⟩
  obtain ⟨t, a, b⟩ := h f cdv A out s H vs Q E hr q
  exact ⟨t, a.nox, b⟩
section
variable {X : Cx} {c : Wd} {C : Addr} {m : Str} {k : Nat} {ps : List Str} {sp : Sp} {pos apos : Pos} {o e : Expr} {es : List Expr} {ta : TE} {t : TA}
theorem pe_mtO {pl : Sem Bool} (D : MtO c C m k ps sp) (hr : Room k X.A) (he : PE X o ta) (ha : PA X (e :: es) t) (hc : Of X c := by exact ⟨rfl, rfl, rfl, rfl, rfl⟩)
    (hst : starEach (e :: es) X.env = (false, eval e X.env) :: starEach es X.env := by rfl) (hpl : (backTo pos (starEach es X.env)).any (·.1) = false := by rfl)
    (ht : eval (.Call (.Attribute o m apos) (e :: es) [] pos) X.env = (do
      let ov ← eval o X.env
      standAt apos.atName
      let (f, first) ← holding [ov] (getMethod ov m pl)
      callWith pos f first (backTo pos (starEach (e :: es) X.env)) (backToKw pos (keywordEach [] X.env))) := by rfl) :
    PE X (.Call (.Attribute o m apos) (e :: es) [] pos) (tMeth C m sp [] E0 ta t) := by
  obtain ⟨f, fd, h1, h2, h3, h4⟩ := D
  obtain ⟨c1, c2, c3, c4, c5⟩ := hc
  obtain ⟨P, w, K, mg, base⟩ := c
  dsimp only at c1 c2 c3 c4 c5
  subst c1 c2 c3 c4 c5
  exact pe_meth (pl := pl) he h1 h2 h4 hr h3 .nil passL ha hst hpl ht
end
end Sd

/-! M13: properties by their class -/
namespace Sd
open PySem PySem.Spec PyProof.Rows L2
/-- a property as the top left it -/
structure PrAt (c : Wd) (C : Addr) (m qual : Str) (st : Stmt) (ps : List Str) : Prop where
  ex : ∃ (p f : Addr) (fd : FuncData), PropOf c.K C m p f ∧ Fun c.K m qual st f fd ∧ Binds c.K fd ps []
  cls : Cls c.K C
/-- a property that keeps its promise -/
def PrO (c : Wd) (C : Addr) (m : Str) (k : Nat) (ps : List Str) (sp : Sp) : Prop :=
  ∃ (p f : Addr) (fd : FuncData), Cls c.K C ∧ PropOf c.K C m p f ∧ Binds c.K fd ps [] ∧ FnOk c.P c.w c.K c.mg c.base (L2.CX c.P c.w) k f fd ps sp
theorem pr_of {c : Wd} {m qual : Str} {C : Addr} {st : Stmt} {N ps : List Str} {k : Nat} {sp : Sp} (F : PrAt c C m qual st ps) (S : FnScope N ps (defScope st))
    (len : ∀ vs H Q E, sp vs H Q E → vs.length = ps.length)
    (h : ∀ (f : Addr) (cdv : Value) (A : Around) (out : List Env) (s : Shared) (H : Hp) (vs : List V) (Q : VK) (E : XK), Room k (A.deeper (envOfC qual (defScope st) s.heap.objs.size f cdv)) → sp vs H Q E →
      ∃ t, PSs (cxN c N qual st f cdv A out s H E).nox (defBody st) t ∧ t { nx := fun _ H' => Q .non H', rt := Q } (L2.start N vs) H) : PrO c C m (k + 1) ps sp := by
  obtain ⟨p, f, fd, h1, h3, h4⟩ := F.ex
  refine ⟨p, f, fd, F.cls, h1, h4, h3.okX S len fun cdv A out s H vs Q E hr q => ?_⟩
  obtain ⟨t, a, b⟩ := h f cdv A out s H vs Q E hr q
  exact ⟨t, a.nox, b⟩
section
variable {X : Cx} {c : Wd} {C : Addr} {m : Str} {k : Nat} {ps : List Str} {sp : Sp} {pos : Pos} {e : Expr} {ta : TE}
theorem pe_prO (D : PrO c C m k ps sp) (hr : Room (k + 1) X.A) (he : PE X e ta) (hc : Of X c := by exact ⟨rfl, rfl, rfl, rfl, rfl⟩) (hab : attributeBase e m X.env (eval e X.env) = eval e X.env := by rfl) :
    PE X (.Attribute e m pos) (tProp C sp [] E0 ta) := by
  obtain ⟨p, f, fd, h1, h2, h3, h4⟩ := D
  obtain ⟨c1, c2, c3, c4, c5⟩ := hc
  obtain ⟨P, w, K, mg, base⟩ := c
  dsimp only at c1 c2 c3 c4 c5
  subst c1 c2 c3 c4 c5
  exact pe_prop he h1 h2 h4 hr h3 .nil passL hab
end
end Sd

/-! M14: a class made by its name -/
namespace Sd
open PySem PySem.Spec PyProof.Rows L2
/-- a class that keeps its promise when it is made -/
def MkO (c : Wd) (x : Str) (C : Addr) (k : Nat) (ps : List Str) (sp : Sp) : Prop :=
  ∃ (f : Addr) (fd : FuncData), Mk c.K C f ∧ c.mg x = some (.ref C) ∧ Binds c.K fd ps [] ∧ FnOk c.P c.w c.K c.mg c.base (L2.CX c.P c.w) k f fd ps sp
section
variable {X : Cx} {c : Wd} {C : Addr} {x : Str} {k : Nat} {ps : List Str} {sp : Sp} {p pos : Pos} {e : Expr} {es : List Expr} {t : TA}
theorem pe_mkO (D : MkO c x C k ps sp) (hr : Room (k + 1) X.A) (hg : Gl X x) (ha : PA X (e :: es) t) (hc : Of X c := by exact ⟨rfl, rfl, rfl, rfl, rfl⟩)
    (hdb : (x == ("__debug__" : Str)) = false := by decide) (he : starEach (e :: es) X.env = (false, eval e X.env) :: starEach es X.env := by rfl) (hpl : (backTo pos (starEach es X.env)).any (·.1) = false := by rfl) :
    PE X (.Call (.Name x p) (e :: es) [] pos) (tMake C sp [] E0 t) := by
  obtain ⟨f, fd, h1, h2, h3, h4⟩ := D
  obtain ⟨c1, c2, c3, c4, c5⟩ := hc
  obtain ⟨P, w, K, mg, base⟩ := c
  dsimp only at c1 c2 c3 c4 c5
  subst c1 c2 c3 c4 c5
  exact pe_make h1 h4 hr hg h2 h3 .nil passL ha hdb he hpl
end
end Sd

namespace Sd
open PySem PySem.Spec PyProof.Rows L2 RZ RT
/-- a text, each sign in a new pair -/
def Itse (z : Str) : It := ⟨fun i _ => i < z.cps.size, fun i H v H' => ∃ T c, v = .ref T ∧ H T = none ∧ H' = upd H T (.tup [.int (i : Nat), .str ⟨#[c]⟩]) ∧ z.cps[i]? = some c, fun i _ => z.cps.size ≤ i⟩
theorem draws_str {P : Program} {w : World} {A : Around} (hh : A.handled = none) (it : Addr) (x : Str) (t : Tok) (ty : String) (hty : ty = "str_ascii_iterator" ∨ ty = "str_iterator") :
    Draws P w A it [it] x.cps.size (fun i v => ∃ c u, x.cps[i]? = some c ∧ v = .str ⟨#[c]⟩ u) (fun i h => h.IsStrIter it ty x t i) := by
  rcases hty with e | e
  · rw [e]; exact Draws.strAscii hh it x t
  · rw [e]; exact Draws.strWide hh it x t
theorem turn_enumS {P : Program} {w : World} {K : PySem.W.Frag} {elts : List Expr} {kk : Nat} {tpos : Pos} (e it : Addr) (x : Str) (t : Tok) (ty : String) (hty : ty = "str_ascii_iterator" ∨ ty = "str_iterator") :
    Turn P w K (.Tuple elts kk tpos) (Itse x) [e, it] e (fun i h => (∃ old, IsEnum h e it ((i : Nat) : Int) old) ∧ h.IsStrIter it ty x t i ∧ e ≠ it ∧ i ≤ x.cps.size) where
  mem := by simp
  obj := fun i h st b hb => by
    obtain ⟨⟨old, he⟩, ⟨o, ho, hc, hd⟩, _, _⟩ := st
    have e' : b = e ∨ b = it := by simpa using hb
    rcases e' with z | z
    · rw [z]; exact ⟨_, he, fun v q => nomatch q⟩
    · rw [z]; exact ⟨o, ho, fun v q => by rw [hd] at q; cases q⟩
  keep := fun i h h' st k => let ⟨⟨old, he⟩, ⟨o, ho, r⟩, hne⟩ := st; ⟨⟨old, k e (by simp) _ he⟩, ⟨o, k it (by simp) o ho, r⟩, hne⟩
  item := by
    intro X hP hw hK hc i pins s σ H E I hf st hg
    subst hP hw hK
    obtain ⟨⟨old, he⟩, hit, hne, hle⟩ := st
    have hel : e < s.heap.objs.size := Heap.lt_size he
    have hil : it < s.heap.objs.size := by obtain ⟨_, q, _⟩ := hit; exact Heap.lt_size q
    have W := draws_str (P := X.prog) (w := X.w) (A := X.A.in1) (I.ok.hd hc) it x t ty hty
    refine wpAny_pyNext_enum_itemD W he hit hg hne (by simpa using hne) fun u h' tk hu ho hit' hT hsz hk => ?_
    obtain ⟨c, u2, hcx, rfl⟩ := hu
    refine ⟨_, rfl, wpAny_letOwnedTupleGo_enum (s := { s with heap := h', toks := tk + 1 }) ho fun h'' he' sb => ?_⟩
    have hT2 : h''.get? s.heap.objs.size = some { cls := .type "tuple", data := .seq #[.int i tk, .str ⟨#[c]⟩ u2] } := (sb.2 _ (Nat.ne_of_gt hel)).trans hT
    have new : ObjOk X.prog X.w (upd H s.heap.objs.size (.tup [.int (i : Nat), .str ⟨#[c]⟩])) h'' s.heap.objs.size (.tup [.int (i : Nat), .str ⟨#[c]⟩]) :=
      ⟨by show 2 ≤ sizeLine; decide, [.int i tk, .str ⟨#[c]⟩ u2], .cons ⟨_, rfl⟩ (.cons ⟨_, rfl⟩ .nil), ⟨_, hT2, rfl, _, rfl⟩⟩
    have I1 : Inv X pins σ (upd H s.heap.objs.size (.tup [.int (i : Nat), .str ⟨#[c]⟩])) { s with heap := h'', toks := tk + 1 } :=
      I.turnedNew (ch := [e, it]) (fun b ob hb q => (sb.2 b (fun z => hb (by simp [z]))).trans (hk b ob (fun z => hb (by simp [z])) (fun z => hb (by simp [z])) q)) hf (Nat.le_refl _) new
    refine ⟨.ref s.heap.objs.size, _, I1, rfl, ⟨_, c, rfl, I.hok.fresh (Nat.le_refl _), rfl, hcx⟩, ⟨⟨.str ⟨#[c]⟩ u2, ?_⟩, ?_, hne, hg⟩, fun b hb => ?_⟩
    · have e1 : ((i + 1 : Nat) : Int) = (i : Int) + 1 := by omega
      rw [e1]; exact he'
    · obtain ⟨o, ho, r⟩ := hit'
      exact ⟨o, (sb.2 it (Ne.symm hne)).trans ho, r⟩
    · have hb' : b < s.heap.objs.size := by
        have e' : b = e ∨ b = it := by simpa using hb
        rcases e' with z | z
        · rw [z]; exact hel
        · rw [z]; exact hil
      rw [upd_ne (Nat.ne_of_lt hb')]
      exact (hf b hb).1
  done := by
    intro X hP hw hK hc i pins s σ H E I hf st hg
    subst hP hw hK
    obtain ⟨⟨old, he⟩, hit, hne, hle⟩ := st
    obtain ⟨f0, f1, f2, f3, f4, f5⟩ := hf it (by simp)
    have W := draws_str (P := X.prog) (w := X.w) (A := X.A.in1) (I.ok.hd hc) it x t ty hty
    have hit2 : s.heap.IsStrIter it ty x t x.cps.size := by
      have hx : i = x.cps.size := Nat.le_antisymm hle hg
      rw [← hx]; exact hit
    exact wpAny_pyNext_enum_endD W he hit2 fun h' eb => ⟨rfl, I.turned (t' := s.toks) (fun b o hb q => eb b o hb q) f0 f1 f3 f4 f5⟩
  self := fun A i s Q E st h => let ⟨⟨_, he⟩, _⟩ := st; wpAny_pyIter_enum he h
def iEnumS (ta : TA) : TI := fun σ H R => ta σ H fun vs H1 => ∃ x, vs = [.str x] ∧ R (Itse x) H1
theorem pi_enumS {X : Cx} {e : Expr} {ta : TA} {p pos tpos : Pos} {elts : List Expr} {kk : Nat} (hg : Gl X "enumerate") (hm : X.mg "enumerate" = none) (ha : PA X [e] ta) (hs : starEach [e] X.env = [(false, eval e X.env)] := by rfl) :
    PI X (.Tuple elts kk tpos) (.Call (.Name "enumerate" p) [e] [] pos) (iEnumS ta) := by
  refine ⟨fun pins s σ H R I h => ?_⟩
  refine Call_ (ld_blt I hg hm boot_enumerate (PyProof.Rows.callWith_type1 (thn (ha.run pos pins s σ H _ I h) fun us s1 ⟨vs, H1, I1, r1, q1⟩ => ?_) hs rfl))
  obtain ⟨x, ex, q⟩ := q1
  subst ex
  cases r1 with
  | cons r rr =>
    cases rr
    obtain ⟨t, rfl⟩ := r
    refine call_enumerate_str fun h' he hit hsz hk => wpAny_pyIter_enum he ?_
    have I2 : Inv X pins σ H1 { s1 with heap := h' } := I1.kept (t' := s1.toks) hk
    have hty : strIterType x = "str_ascii_iterator" ∨ strIterType x = "str_iterator" := by
      unfold strIterType
      split
      · exact .inl rfl
      · exact .inr rfl
    refine ⟨s1.heap.objs.size + 1, [s1.heap.objs.size + 1, s1.heap.objs.size], _, _, H1, rfl, I2, turn_enumS (s1.heap.objs.size + 1) s1.heap.objs.size x t _ hty, ⟨⟨.none, he⟩, hit, Nat.succ_ne_self _, Nat.zero_le _⟩, fun b hb => ?_, q⟩
    have e' : b = s1.heap.objs.size + 1 ∨ b = s1.heap.objs.size := by simpa using hb
    have hle : s1.heap.objs.size ≤ b := by
      rcases e' with z | z
      · rw [z]; exact Nat.le_add_right _ _
      · rw [z]; exact Nat.le_refl _
    exact I1.fpOk hle (I1.hok.fresh hle)
def iEnumU (K : PySem.W.Frag) (ta : TA) : TI := fun σ H R => iEnum K ta σ H R ∨ iEnumS ta σ H R
theorem pi_enumU {X : Cx} {K : PySem.W.Frag} {e : Expr} {ta : TA} {p pos tpos : Pos} {elts : List Expr} {kk : Nat} (hg : Gl X "enumerate") (hm : X.mg "enumerate" = none) (ha : PA X [e] ta) (hK : X.K = K := by rfl) (hs : starEach [e] X.env = [(false, eval e X.env)] := by rfl) :
    PI X (.Tuple elts kk tpos) (.Call (.Name "enumerate" p) [e] [] pos) (iEnumU K ta) := by
  subst hK
  exact PI.or (pi_enum hg hm ha hs) (pi_enumS hg hm ha hs)
theorem walk_enumS {z : Str} : Walk (Itse z) z.cps.size (fun _ => True) (YPair (fun i => some (.int (i : Nat))) (fun i => (z.cps[i]?).map fun c => .str ⟨#[c]⟩)) := by
  refine ⟨fun _ _ hi _ => hi, fun _ _ => Nat.le_refl _, fun i H v H' _ _ y => ?_⟩
  obtain ⟨T, c, h1, h2, h3, h4⟩ := y
  exact ⟨T, .int (i : Nat), .str ⟨#[c]⟩, h1, h2, h3, rfl, by simp [h4]⟩
end Sd
namespace Sd
open PySem PySem.Spec PyProof.Rows L2
section
variable {X : Cx}
def rInT (K : PySem.W.Frag) : R2 := fun x y H Q => ∃ d ds, Dp K H x d ∧ Dp K H y (.tuple ds) ∧ SeqAt.shaped d = true ∧ SeqAt.shaped (.tuple ds) = true ∧ Q (.bl (ds.any fun z => PyData.eqv z d)) H
theorem op_inT (hu : X.A.units + 65 < cLine) : OpR X (compareOp .In) (rInT X.K) := by
  intro pins s σ H x y v u Q I rx ry h
  obtain ⟨d, ds, hd, he, sd, se, q⟩ := h
  obtain ⟨as, r1⟩ := Dp.reads I d x v hd rx
  obtain ⟨bs, r2⟩ := Dp.reads I (.tuple ds) y u he ry
  exact SeqAt.in_tuple_reads r2 r1 (SeqAt.canLay_of_shaped se) (SeqAt.canLay_of_shaped sd) (room_in_shaped sd hu) ⟨.bl _, H, I, rfl, q⟩
def rInQ (K : PySem.W.Frag) : R2 := fun x y H Q => rInU K x y H Q ∨ rInT K x y H Q
theorem op_inQ {K : PySem.W.Frag} (hu : X.A.units + 65 < cLine) (hK : X.K = K := by rfl) : OpR X (compareOp .In) (rInQ K) := by subst hK; exact OpR.or (op_inU hu) (op_inT hu)
end
end Sd

/-! M16: zip of a list and a tuple -/
namespace Sd
open PySem PySem.Spec PyProof.Rows L2 RZ RT
/-- a list's items beside a tuple's, each two in a new pair -/
def Itm (K : PySem.W.Frag) (a b : Addr) (xs ys : List V) : It where
  go := fun i H => SqL K H a xs ∧ SqT K H b ys ∧ i < xs.length ∧ i < ys.length
  yld := fun i H v H' => ∃ T x y, v = .ref T ∧ H T = none ∧ H' = upd H T (.tup [x, y]) ∧ xs[i]? = some x ∧ ys[i]? = some y
  stop := fun i H => SqL K H a xs ∧ SqT K H b ys ∧ (xs.length ≤ i ∨ ys.length ≤ i)
/-- five cells that lie apart, of one another and of what is walked -/
theorem sep_of {z TI TO i1 i2 a b : Addr} (D : ZipApart z TI TO i1 i2 a b) : ZipSep2 z TI TO i1 i2 [i1, a] [i2, b] where
  TIz := D.TIz
  TOz := D.TOz
  TITO := D.TITO
  TIi1 := D.TIi1
  TIi2 := D.TIi2
  mem1 := List.mem_cons_self
  mem2 := List.mem_cons_self
  zf1 := by simp [D.i1z.symm, D.l1z.symm]
  zf2 := by simp [D.i2z.symm, D.l2z.symm]
  Tf1 := by simp [D.TOi1, D.l1TO.symm]
  Tf2 := by simp [D.TOi2, D.l2TO.symm]
  sep1_2 := by simp [D.i12, D.l2i1.symm]
  sep2_1 := by simp [D.i12.symm, D.l1i2.symm]
structure ZmSt (h : Heap) (z TI TO i1 i2 a b : Addr) (n k i : Nat) : Prop where
  zp : IsZip h z TI TO .none
  ti : IsPair h TI (.ref i1) (.ref i2)
  to : ∃ p q, IsPair h TO p q
  li : h.IsListIter i1 a i
  tu : h.IsTupleIter i2 b i
  n1 : i ≤ n
  n2 : i ≤ k
theorem turn_zipM {P : Program} {w : World} {K : PySem.W.Frag} {elts : List Expr} {kk : Nat} {tpos : Pos} {a b z TI TO i1 i2 : Addr} {xs ys : List V} (D : ZipApart z TI TO i1 i2 a b) :
    Turn P w K (.Tuple elts kk tpos) (Itm K a b xs ys) [z, TI, TO, i1, i2] z (fun i h => ZmSt h z TI TO i1 i2 a b xs.length ys.length i) where
  mem := List.mem_cons_self
  obj := fun i h st c hc => by
    obtain ⟨u, v, h3⟩ := st.to
    obtain ⟨o1, e1, _, d1⟩ := st.li
    obtain ⟨o2, e2, _, d2⟩ := st.tu
    simp only [List.mem_cons, List.not_mem_nil, or_false] at hc
    rcases hc with rfl | rfl | rfl | rfl | rfl
    · exact ⟨_, st.zp, fun _ q => nomatch q⟩
    · exact ⟨_, st.ti, fun _ q => nomatch q⟩
    · exact ⟨_, h3, fun _ q => nomatch q⟩
    · exact ⟨o1, e1, fun _ q => by rw [d1] at q; cases q⟩
    · exact ⟨o2, e2, fun _ q => by rw [d2] at q; cases q⟩
  keep := fun i h h' st k => by
    obtain ⟨u, v, h3⟩ := st.to
    refine ⟨k z (by simp) _ st.zp, k TI (by simp) _ st.ti, ⟨u, v, k TO (by simp) _ h3⟩, st.li.at fun o q => k i1 (by simp) o q, ?_, st.n1, st.n2⟩
    obtain ⟨o2, e2, r2⟩ := st.tu
    exact ⟨o2, k i2 (by simp) _ e2, r2⟩
  item := by
    intro X hP hw hK hc i pins s σ H E I free st hg
    subst hP hw hK
    obtain ⟨qa, qb, hx, hy⟩ := hg
    obtain ⟨as, ra, pa, _⟩ := I.list qa
    obtain ⟨bs, rb, pb, _⟩ := I.tuple qb
    obtain ⟨va, ea, r1⟩ := ra.get (i := i) (List.getElem?_eq_getElem hx)
    obtain ⟨vb, eb, r2⟩ := rb.get (i := i) (List.getElem?_eq_getElem hy)
    obtain ⟨u, v, h3⟩ := st.to
    have hd := I.ok.hd hc
    have D1 := Draws.list (prog := X.prog) (w := X.w) (A := X.A.in1) hd i1 a D.l1i1 as.toArray
    have D2 := Draws.tuple (prog := X.prog) (w := X.w) (A := X.A.in1) hd i2 b D.l2i2 bs.toArray
    have la := ra.length
    have lb := rb.length
    have below : ∀ c, c ∈ [z, TI, TO, i1, i2] → c < s.heap.objs.size := fun c hm => by
      obtain ⟨o1, e1, _⟩ := st.li
      obtain ⟨o2, e2, _⟩ := st.tu
      simp only [List.mem_cons, List.not_mem_nil, or_false] at hm
      rcases hm with rfl | rfl | rfl | rfl | rfl
      · exact Heap.lt_size st.zp
      · exact Heap.lt_size st.ti
      · exact Heap.lt_size h3
      · exact Heap.lt_size e1
      · exact Heap.lt_size e2
    refine wpAny_pyNext_zipD2_item (sep_of D) D1 D2 st.zp st.ti h3 ⟨st.li, pa.isList⟩ ⟨st.tu, pb⟩ (by rw [List.size_toArray]; omega) (by rw [List.size_toArray]; omega) fun w1 w2 h' tk y1 y2 z' TO' s1' s2' hT hsz hk => ?_
    have ew1 : w1 = va := by
      have : as[i]? = some w1 := by simpa using y1
      rw [ea] at this
      exact (Option.some.inj this).symm
    have ew2 : w2 = vb := by
      have : bs[i]? = some w2 := by simpa using y2
      rw [eb] at this
      exact (Option.some.inj this).symm
    subst ew1 ew2
    refine ⟨_, rfl, wpAny_letOwnedTupleGo_zip (s := { s with heap := h', toks := tk }) z' fun h'' z'' sb => ?_⟩
    have zl := below z (by simp)
    have hT2 : IsPair h'' s.heap.objs.size w1 w2 := (sb.2 _ (Nat.ne_of_gt zl)).trans hT
    have new : ObjOk X.prog X.w (upd H s.heap.objs.size (.tup [xs[i], ys[i]])) h'' s.heap.objs.size (.tup [xs[i], ys[i]]) := ⟨by show 2 ≤ sizeLine; decide, [w1, w2], .cons r1 (.cons r2 .nil), ⟨_, hT2, rfl, _, rfl⟩⟩
    have I1 : Inv X pins σ (upd H s.heap.objs.size (.tup [xs[i], ys[i]])) { s with heap := h'', toks := tk } := I.turnedNew (ch := [z, TI, TO, i1, i2]) (fun c o hb q => by
      simp only [List.mem_cons, List.not_mem_nil, or_false, not_or] at hb
      exact (sb.2 c hb.1).trans (hk c o hb.1 hb.2.2.1 hb.2.2.2.1 hb.2.2.2.2 q)) free (Nat.le_refl _) new
    refine ⟨.ref s.heap.objs.size, _, I1, rfl, ⟨_, _, _, rfl, I.hok.fresh (Nat.le_refl _), rfl, List.getElem?_eq_getElem hx, List.getElem?_eq_getElem hy⟩, ⟨z'', ?_, ⟨w1, w2, ?_⟩, ?_, ?_, hx, hy⟩, fun c hm => ?_⟩
    · exact (sb.2 _ D.TIz).trans (hk _ _ D.TIz D.TITO D.TIi1 D.TIi2 st.ti)
    · exact (sb.2 _ D.TOz).trans TO'
    · exact s1'.1.at fun o q => (sb.2 _ D.i1z).trans q
    · obtain ⟨o2, e2, rr2⟩ := s2'.1
      exact ⟨o2, (sb.2 _ D.i2z).trans e2, rr2⟩
    · rw [upd_ne (Nat.ne_of_lt (below c hm))]
      exact (free c hm).1
  done := by
    intro X hP hw hK hc i pins s σ H E I free st hg
    subst hP hw hK
    obtain ⟨qa, qb, hend⟩ := hg
    obtain ⟨as, ra, pa, _⟩ := I.list qa
    obtain ⟨bs, rb, pb, _⟩ := I.tuple qb
    obtain ⟨u, v, h3⟩ := st.to
    have hd := I.ok.hd hc
    have D1 := Draws.list (prog := X.prog) (w := X.w) (A := X.A.in1) hd i1 a D.l1i1 as.toArray
    have D2 := Draws.tuple (prog := X.prog) (w := X.w) (A := X.A.in1) hd i2 b D.l2i2 bs.toArray
    have la := ra.length
    have lb := rb.length
    have b1 := st.n1
    have b2 := st.n2
    refine wpAny_pyNext_zipD2_end (sep_of D) D1 D2 st.zp st.ti h3 ⟨st.li, pa.isList⟩ ⟨st.tu, pb⟩ (by rw [List.size_toArray]; omega) (by rw [List.size_toArray]; omega) (by rw [List.size_toArray, List.size_toArray]; omega) fun h' tk hk => ?_
    refine ⟨rfl, I.turnedL (ch := [z, TI, TO, i1, i2]) (fun c o hb q => ?_) free⟩
    simp only [List.mem_cons, List.not_mem_nil, or_false, not_or] at hb
    exact hk c o hb.1 hb.2.2.1 hb.2.2.2.1 hb.2.2.2.2 q
  self := fun A i s Q E st h => wpAny_pyIter_zip st.zp h
abbrev zm1 (h : Heap) (a : Addr) : Heap := h.push ⟨.type "list_iterator", none, .fields #[.ref a, .int 0 0], #[]⟩
abbrev zm2 (h : Heap) (a b : Addr) : Heap := (zm1 h a).push ⟨.type "tuple_iterator", none, .fields #[.ref b, .int 0 0], #[]⟩
abbrev zm3 (h : Heap) (a b : Addr) : Heap := (zm2 h a b).push ⟨.type "tuple", none, .seq #[.ref h.objs.size, .ref (zm1 h a).objs.size], #[]⟩
abbrev zm4 (h : Heap) (a b : Addr) : Heap := (zm3 h a b).push ⟨.type "tuple", none, .seq #[.none, .none], #[]⟩
abbrev zm5 (h : Heap) (a b : Addr) : Heap := (zm4 h a b).push ⟨.type "zip", none, .fields #[.none, .bool false, .bool false, .ref (zm2 h a b).objs.size, .ref (zm3 h a b).objs.size], #[]⟩
theorem made_zipM (a b : Addr) (us vs : Array Value) :
    Meets (Builtin.«zip.__new__» ⟨[.type "zip", .ref a, .ref b], []⟩) (fun _ R s => s.heap.IsList a us ∧ s.heap.IsTuple b vs ∧ R (.ok (.ret (.ref (zm4 s.heap a b).objs.size))) { s with heap := zm5 s.heap a b }) := by
  refine .of_wp fun prog w A R s h => ?_
  obtain ⟨hp, g, d, tk, os⟩ := s
  obtain ⟨ha, hb, h⟩ := h
  have hsub := sub_zip
  have k1 : Heap.IsList (Shared.heap ⟨hp, g, d, tk, os⟩) a us := ha
  have k2 : Heap.IsTuple (Shared.heap ⟨hp.push ⟨.type "list_iterator", none, .fields #[.ref a, .int 0 0], #[]⟩, g, d, tk, os⟩) b vs := Heap.IsTuple.push hb _
  wp_walk using wpAny_pyIter_list k1, wpAny_pyIter_tuple k2
  exact ⟨_, rfl, h⟩
section
variable {prog : Program} {w : World} {A : Around} {E : Value → Shared → Prop} {s : Shared}
theorem call_zipM {a b : Addr} {us vs : Array Value} {Q : Value → Shared → Prop} (ha : s.heap.IsList a us) (hb : s.heap.IsTuple b vs)
    (k : ∀ h', IsZip h' (s.heap.objs.size + 4) (s.heap.objs.size + 2) (s.heap.objs.size + 3) .none → IsPair h' (s.heap.objs.size + 2) (.ref s.heap.objs.size) (.ref (s.heap.objs.size + 1)) → IsPair h' (s.heap.objs.size + 3) .none .none →
      h'.IsListIter s.heap.objs.size a 0 → h'.IsTupleIter (s.heap.objs.size + 1) b 0 → (∀ c o, s.heap.get? c = some o → h'.get? c = some o) → Q (.ref (s.heap.objs.size + 4)) { s with heap := h' }) :
    wpAny (model prog w) A (call (.type "zip") [.ref a, .ref b]) Q E s := by
  refine callType_new F.called_zip (by decide) (F.typeCall_zip_2 _ _) (F.newCall_zip_2 _ _) (fun obj => F.args_object_init_3 obj _ _) F.entry_zip_new (made_zipM a b us vs) ⟨ha, hb, ?_⟩
  have e1 : (zm1 s.heap a).objs.size = s.heap.objs.size + 1 := Heap.size_push ..
  have e2 : (zm2 s.heap a b).objs.size = s.heap.objs.size + 2 := by rw [Heap.size_push, e1]
  have e3 : (zm3 s.heap a b).objs.size = s.heap.objs.size + 3 := by rw [Heap.size_push, e2]
  have e4 : (zm4 s.heap a b).objs.size = s.heap.objs.size + 4 := by rw [Heap.size_push, e3]
  have up : ∀ c o, (zm4 s.heap a b).get? c = some o → (zm5 s.heap a b).get? c = some o := fun c o x => Heap.get?_push_of_some _ x
  have up4 : ∀ c o, (zm3 s.heap a b).get? c = some o → (zm4 s.heap a b).get? c = some o := fun c o x => Heap.get?_push_of_some _ x
  have up3 : ∀ c o, (zm2 s.heap a b).get? c = some o → (zm3 s.heap a b).get? c = some o := fun c o x => Heap.get?_push_of_some _ x
  have up2 : ∀ c o, (zm1 s.heap a).get? c = some o → (zm2 s.heap a b).get? c = some o := fun c o x => Heap.get?_push_of_some _ x
  have f5 : (zm5 s.heap a b).get? (zm4 s.heap a b).objs.size = some _ := Heap.get?_push_size _ rfl
  have f4 : (zm5 s.heap a b).get? (zm3 s.heap a b).objs.size = some _ := up _ _ (Heap.get?_push_size _ rfl)
  have f3 : (zm5 s.heap a b).get? (zm2 s.heap a b).objs.size = some _ := up _ _ (up4 _ _ (Heap.get?_push_size _ rfl))
  have f2 : (zm5 s.heap a b).get? (zm1 s.heap a).objs.size = some _ := up _ _ (up4 _ _ (up3 _ _ (Heap.get?_push_size _ rfl)))
  have f1 : (zm5 s.heap a b).get? s.heap.objs.size = some _ := up _ _ (up4 _ _ (up3 _ _ (up2 _ _ (Heap.get?_push_size _ rfl))))
  show _ ∧ _
  rw [e2, e3, e4] at f5
  rw [e1, e2] at f3
  rw [e3] at f4
  rw [e1] at f2
  rw [e4]
  exact ⟨⟨_, f5, rfl⟩, k _ f5 f3 f4 ⟨_, f1, rfl, rfl⟩ ⟨_, f2, rfl, rfl⟩ fun c o x => up _ _ (up4 _ _ (up3 _ _ (up2 _ _ (Heap.get?_push_of_some _ x))))⟩
end
def iZipM (K : PySem.W.Frag) (ta : TA) : TI := fun σ H R => ta σ H fun vs H1 => ∃ a b xs ys, vs = [.ref a, .ref b] ∧ SqL K H1 a xs ∧ SqT K H1 b ys ∧ R (Itm K a b xs ys) H1
theorem pi_zipM {X : Cx} {e e2 : Expr} {ta : TA} {p pos tpos : Pos} {elts : List Expr} {kk : Nat} (hg : Gl X "zip") (hm : X.mg "zip" = none) (ha : PA X [e, e2] ta)
    (hs : starEach [e, e2] X.env = (false, eval e X.env) :: starEach [e2] X.env := by rfl) (hpl : (backTo pos (starEach [e2] X.env)).any (·.1) = false := by rfl) :
    PI X (.Tuple elts kk tpos) (.Call (.Name "zip" p) [e, e2] [] pos) (iZipM X.K ta) := by
  constructor
  intro pins s σ H R I h
  refine Call_ (ld_blt I hg hm PyProof.Rows.boot_zip (PyProof.Rows.callWith_type1 (thn (ha.run pos pins s σ H _ I h) ?_) hs hpl))
  rintro us s1 ⟨vs, H1, I1, r1, a, b, xs, ys, rfl, qa, qb, q⟩
  cases r1 with
  | cons ra rr =>
    cases rr with
    | cons rb rr =>
      cases rr
      cases ra
      cases rb
      obtain ⟨as, va, pa, _⟩ := I1.list qa
      obtain ⟨bs, vb, pb, _⟩ := I1.tuple qb
      obtain ⟨ob, eb, _⟩ := id pb
      refine call_zipM pa.isList (show s1.heap.IsTuple b bs.toArray from pb) fun h' z1 z2 z3 z4 z5 hk => wpAny_pyIter_zip z1 ?_
      have I2 : Inv X pins σ H1 { s1 with heap := h' } := I1.kept (t' := s1.toks) hk
      refine ⟨s1.heap.objs.size + 4, [s1.heap.objs.size + 4, s1.heap.objs.size + 2, s1.heap.objs.size + 3, s1.heap.objs.size, s1.heap.objs.size + 1], _, _, H1, rfl, I2, turn_zipM (PySem.W.ktu_apart s1.heap.objs.size a b pa.lt (Heap.lt_size eb)), ⟨z1, z2, ⟨_, _, z3⟩, z4, z5, Nat.zero_le _, Nat.zero_le _⟩, fun c hm => ?_, q⟩
      have le : s1.heap.objs.size ≤ c := by
        simp only [List.mem_cons, List.not_mem_nil, or_false] at hm
        rcases hm with rfl | rfl | rfl | rfl | rfl
        all_goals first | exact Nat.le_refl _ | exact Nat.le_add_right _ _
      exact I1.fpOk le (I1.hok.fresh le)
def iZipQ (K : PySem.W.Frag) (ta : TA) : TI := fun σ H R => RZ.iZipA K ta σ H R ∨ iZipM K ta σ H R
theorem pi_zipQ {X : Cx} {K : PySem.W.Frag} {p pos tpos : Pos} {e e2 : Expr} {ta : TA} {elts : List Expr} {kk : Nat} (hg : Gl X "zip") (hm : X.mg "zip" = none) (ha : PA X [e, e2] ta) (hK : X.K = K := by rfl)
    (hs : starEach [e, e2] X.env = (false, eval e X.env) :: starEach [e2] X.env := by rfl) (hpl : (backTo pos (starEach [e2] X.env)).any (·.1) = false := by rfl) :
    PI X (.Tuple elts kk tpos) (.Call (.Name "zip" p) [e, e2] [] pos) (iZipQ K ta) := by
  subst hK
  exact PI.or (RZ.pi_zipA hg hm ha hs hpl) (pi_zipM hg hm ha hs hpl)
theorem walk_zipM {K : PySem.W.Frag} {a b : Addr} {xs ys : List V} {n : Nat} (hn : n = min xs.length ys.length) : Walk (Itm K a b xs ys) n (fun H => SqL K H a xs ∧ SqT K H b ys) (YPair (fun i => xs[i]?) (fun i => ys[i]?)) := by
  subst hn
  exact ⟨fun i _ hi q => ⟨q.1, q.2, by omega, by omega⟩, fun _ q => ⟨q.1, q.2, by omega⟩, fun _ _ _ _ _ _ y => y⟩
end Sd

/-! M17: a tuple taken once, or not at all -/
namespace Sd
open PySem PySem.Spec PyProof.Rows L2
theorem tup_times1 (l : Addr) (items : Array Value) (n : Nat) (dd : Option Addr) (sl : Array (Option Value)) (u : Tok) :
    Meets (Builtin.«tuple.__mul__» ⟨[.ref l, .int 1 u], []⟩) (fun _ R s => s.heap.get? l = some { cls := .type "tuple", dict := dd, data := .seq items n, slots := sl } ∧ R (.ok (.ret (Value.ref l))) s) :=
  .of_wp fun prog w A R s h => by
    obtain ⟨hp, g, d, tk, os⟩ := s
    obtain ⟨hl, h⟩ := h
    have f1 := AutoSeq1.idx_int
    have c0 : (decide ((1 : Int) < -(2 ^ 63)) || decide ((1 : Int) ≥ 2 ^ 63)) = false := by decide
    have c1 : (items.isEmpty || (1 : Int) == 1) = true := by simp
    wp_walk using wpAny_loadPart' hl
    repeat (first
      | (refine wpAny_ite_false (decide_eq_false (by rw [c0]; exact Bool.false_ne_true)) ?_; wp_walk using wpAny_loadPart' hl)
      | (refine wpAny_ite_true (decide_eq_true c1) ?_; wp_walk using wpAny_loadPart' hl))
    exact ⟨_, rfl, h⟩
theorem tup_times0 (l : Addr) (items : Array Value) (n : Nat) (dd : Option Addr) (sl : Array (Option Value)) (u : Tok) (hne : items.isEmpty = false) :
    Meets (Builtin.«tuple.__mul__» ⟨[.ref l, .int 0 u], []⟩) (fun _ R s => s.heap.get? l = some { cls := .type "tuple", dict := dd, data := .seq items n, slots := sl } ∧
      R (.ok (.ret (Value.ref s.heap.objs.size))) { s with heap := s.heap.push { cls := Value.type "tuple", data := Data.seq #[] }, toks := s.toks }) :=
  .of_wp fun prog w A R s h => by
    obtain ⟨hp, g, d, tk, os⟩ := s
    obtain ⟨hl, h⟩ := h
    have f1 := AutoSeq1.idx_int
    have c0 : (decide ((0 : Int) < -(2 ^ 63)) || decide ((0 : Int) ≥ 2 ^ 63)) = false := by decide
    have c1 : (items.isEmpty || (0 : Int) == 1) = false := by rw [hne]; decide
    have c2 : (decide ((0 : Int) ≤ 0) || items.isEmpty) = true := by simp
    wp_walk using wpAny_loadPart' hl
    repeat (first
      | (refine wpAny_ite_false (decide_eq_false (by rw [c0]; exact Bool.false_ne_true)) ?_; wp_walk using wpAny_loadPart' hl)
      | (refine wpAny_ite_false (decide_eq_false (by rw [c1]; exact Bool.false_ne_true)) ?_; wp_walk using wpAny_loadPart' hl)
      | (refine wpAny_ite_true (decide_eq_true c2) ?_; wp_walk using wpAny_loadPart' hl))
    exact ⟨_, rfl, h⟩
def rRep01 (K : PySem.W.Frag) : R2 := fun x y H Q => ∃ (l : Addr) (k : Int) (xs : List V), x = .ref l ∧ y = .int k ∧ SqT K H l xs ∧ xs ≠ [] ∧ ((k = 1 ∧ Q (.ref l) H) ∨ (k = 0 ∧ ∀ p, H p = none → Q (.ref p) (upd H p (.tup []))))
section
variable {X : Cx}
theorem op_rep01 : OpR X (binaryOp .Mult) (rRep01 X.K) := by
  intro pins s σ H x y v u Q I rx ry h
  obtain ⟨l, k, xs, rfl, rfl, hT, hne, hk⟩ := h
  cases rx
  obtain ⟨t, rfl⟩ := ry
  obtain ⟨its, r, ⟨⟨cls, dd, data, sl⟩, ho, hcls, n, hdt⟩, hs⟩ := I.tuple hT
  simp only at hcls hdt
  subst hcls hdt
  have hle := r.length
  have hi : its.toArray.isEmpty = false := by
    cases its with
    | nil =>
      cases xs with
      | nil => exact absurd rfl hne
      | cons a b => simp at hle
    | cons a b => rfl
  have goes : ∀ {R : Value → Shared → Prop}, wpAny (model X.prog X.w) X.A (call (.builtin "tuple.__mul__") [.ref l, .int k t]) R X.xe s → wpAny (model X.prog X.w) X.A (binaryOp .Mult (.ref l) (.int k t)) R X.xe s := fun hh =>
    wpAny_binaryOp_repeat_ref (T := "tuple") (U := "int") (by decide) ⟨_, ho, rfl⟩ (fun s' => typeIs_int s' k t) noFill_tuple_mul F.fills_int_mul F.slot_int_rmul repeat_tuple F.slot_int_index.lookup
      (call_meets F.slot_int_rmul (typeIs_int s k t) F.entry_int_rmul (F.args_int_rmul_2 _ _) (int_rmul_tuple k t l its.toArray n dd sl) ⟨ho, rfl, ⟨_, ho, rfl⟩, hh⟩)
  rcases hk with ⟨rfl, q⟩ | ⟨rfl, q⟩
  · exact goes (call_meets F.slot_tuple_mul ⟨_, ho, rfl⟩ F.entry_tuple_mul (F.args_tuple_mul_2 _ _) (tup_times1 l its.toArray n dd sl t) ⟨ho, ⟨.ref l, H, I, rfl, q⟩⟩)
  · refine goes (call_meets F.slot_tuple_mul ⟨_, ho, rfl⟩ F.entry_tuple_mul (F.args_tuple_mul_2 _ _) (tup_times0 l its.toArray n dd sl t hi) ⟨ho, ?_⟩)
    refine ⟨.ref s.heap.objs.size, _, I.laid (t' := s.toks) (o := .tup []) (fun b ob q => Heap.get?_push_of_some _ q) (Nat.le_refl _) ?_, rfl, q _ (I.hok.fresh (Nat.le_refl _))⟩
    exact ⟨Nat.zero_le _, _, .nil, IsTup.new _ _⟩
def rMulQ (K : PySem.W.Frag) : R2 := fun x y H Q => rMulU x y H Q ∨ (rRepT K x y H Q ∨ rRep01 K x y H Q)
theorem op_mulQ {K : PySem.W.Frag} (hK : X.K = K := by rfl) : OpR X (binaryOp .Mult) (rMulQ K) := by
  subst hK
  exact OpR.or op_mulU (OpR.or op_repT op_rep01)
end
end Sd

namespace Sd
open PySem PySem.Spec PyProof.Rows L2
def topS (i : Nat) : Stmt := PySem.Challenge.pw_seldomseen_k11_what_is_not_seen.main.body.getD i (.Pass ⟨0, 0, 0, 0⟩)

structure Bi (c : Wd) : Prop where
  len : c.mg "len" = none
  isinstance : c.mg "isinstance" = none
  all : c.mg "all" = none
  sum : c.mg "sum" = none
  list : c.mg "list" = none
  tuple : c.mg "tuple" = none
  int : c.mg "int" = none
  bool : c.mg "bool" = none
  str : c.mg "str" = none
  abs : c.mg "abs" = none
  min : c.mg "min" = none
  max : c.mg "max" = none
  sorted : c.mg "sorted" = none
  repr : c.mg "repr" = none
  set : c.mg "set" = none
  range : c.mg "range" = none
  zip : c.mg "zip" = none
  enumerate : c.mg "enumerate" = none
  reversed : c.mg "reversed" = none

/-- the drawn numbers' pot: three ints, the last one counts -/
def Pot (H : Hp) (p : Addr) (n : Nat) : Prop := ∃ (a b : Int) (k : Nat), H p = some (.lst [.int a, .int b, .int (k : Int)]) ∧ 0 ≤ b ∧ b < 2305843009213693921 ∧ k ≤ n
def spTake : Sp := fun vs H Q _ => ∃ (p : Addr) (n u : Nat), vs = [.ref p, .int (u : Int)] ∧ Pot H p n ∧ n ≤ 2 ^ 30 ∧ 0 < u ∧ u < 2 ^ 29 ∧
  ∀ (r : Nat) (H' : Hp), r < u → Go [p] H H' → Pot H' p (n + 1) → Q (.int (r : Int)) H'
theorem modNat (a : Int) {u : Nat} (h : 0 < u) : ∃ r : Nat, r < u ∧ a % (u : Int) = (r : Int) := by
  have h1 := Int.emod_nonneg a (show (u : Int) ≠ 0 by omega)
  have h2 := Int.emod_lt_of_pos a (show (0 : Int) < u by omega)
  exact ⟨(a % (u : Int)).toNat, by omega, by omega⟩
theorem prime5 (k : Nat) : ∃ (j : Nat) (pr : Int), j < 5 ∧ ((k : Nat) : Int) % 5 = (j : Int) ∧ [V.int 2147483647, V.int 2147483629, V.int 2147483587, V.int 2147483579, V.int 2147483563][j]? = some (.int pr) ∧ 0 < pr ∧ pr < 2 ^ 31 := by
  have h : k % 5 < 5 := Nat.mod_lt _ (by decide)
  refine ⟨k % 5, ?_⟩
  have e : ((k : Nat) : Int) % 5 = ((k % 5 : Nat) : Int) := by omega
  rcases (by omega : k % 5 = 0 ∨ k % 5 = 1 ∨ k % 5 = 2 ∨ k % 5 = 3 ∨ k % 5 = 4) with z | z | z | z | z <;> rw [z] at e ⊢
  · exact ⟨2147483647, by decide, e, rfl, by decide, by decide⟩
  · exact ⟨2147483629, by decide, e, rfl, by decide, by decide⟩
  · exact ⟨2147483587, by decide, e, rfl, by decide, by decide⟩
  · exact ⟨2147483579, by decide, e, rfl, by decide, by decide⟩
  · exact ⟨2147483563, by decide, e, rfl, by decide, by decide⟩
theorem powW {i j : Int} {n : Nat} (h0 : 0 < n) (h : i.natAbs < 2 ^ n) (hj : 0 ≤ j) (hm : ((n : Nat) : Int) * j ≤ 2 ^ 27) : CPowW i j := by
  refine ⟨hj, Int.le_trans (Int.mul_le_mul_of_nonneg_right ?_ hj) hm⟩
  have := PySem.Flt.log2_lt_of h0 h
  unfold Builtin.Int.intBits
  split <;> omega
section
variable {c : Wd}
abbrev s__law_take : Stmt := topS 49
abbrev N__law_take : List Str := ["_law_pot", "_law_upto", "_law_prime", "_law_mixed", "_law_digit"]
abbrev P__law_take : List Str := ["_law_pot", "_law_upto"]
theorem sc__law_take : FnScope N__law_take P__law_take (defScope s__law_take) := ⟨rfl, rfl, rfl, by decide +kernel, rfl, by decide +kernel, by decide +kernel⟩
theorem ok_take (F : At c "_law_take" "_law_take" s__law_take P__law_take) (B : Bi c) : Ok c "_law_take" 1 P__law_take spTake := by
  refine Ok.of F sc__law_take (fun vs H Q E h => ?_) (fun f cdv A out s H vs Q E hr h => ?_)
  · obtain ⟨p, n, u, rfl, _⟩ := h
    rfl
  · obtain ⟨p, n, u, rfl, ⟨a, b, k, hp, hb0, hb1, hk⟩, hn, hu0, huu, q⟩ := h
    have hu1 := hu_of hr
    refine ⟨_, (pss_cons (ps_if (pt_cmpR op_gtU (pe_ixU (K := c.K) hu1 (pv 0) pe_int (fun _ _ => rfl) (fun _ _ => rfl)) pe_int (nomark _)) (pss_cons (ps_set (i := 4) sc__law_take.nd rfl (by first | exact Or.inl rfl | exact Or.inr rfl) (pe_op op_modU (pe_callTy call_intU (by rfl) B.int (by decide +kernel) (pa_cons (pe_ixU (K := c.K) hu1 (pv 0) pe_int (fun _ _ => rfl) (fun _ _ => rfl)) pa_nil)) (pv 1)))
    (pss_cons (ps_asg (pe_op op_fdU (pe_ixU (K := c.K) hu1 (pv 0) pe_int (fun _ _ => rfl) (fun _ _ => rfl)) (pv 1)) (pg_sub (pv 0) pe_int set_list))
    (pss_one (ps_ret (pv 4))))) pss_nil)
    (pss_cons (ps_asg (pe_op (op_addU (K := c.K)) (pe_ixU (K := c.K) hu1 (pv 0) pe_int (fun _ _ => rfl) (fun _ _ => rfl)) pe_int) (pg_sub (pv 0) pe_int set_list))
    (pss_cons (ps_set (i := 2) sc__law_take.nd rfl (by first | exact Or.inl rfl | exact Or.inr rfl) (pe_ixU (K := c.K) hu1 (pe_lst (pa_cons pe_int (pa_cons pe_int (pa_cons pe_int (pa_cons pe_int (pa_cons pe_int pa_nil)))))) (pe_op op_modU (pe_callTy call_intU (by rfl) B.int (by decide +kernel) (pa_cons (pe_ixU (K := c.K) hu1 (pv 0) pe_int (fun _ _ => rfl) (fun _ _ => rfl)) pa_nil)) pe_int) (fun _ _ => rfl) (fun _ _ => rfl)))
    (pss_cons (ps_set (i := 3) sc__law_take.nd rfl (by first | exact Or.inl rfl | exact Or.inr rfl) (pe_op op_modU (pe_op op_powU (pe_callTy call_intU (by rfl) B.int (by decide +kernel) (pa_cons (pe_op (op_addU (K := c.K)) (pe_op (op_addU (K := c.K)) (pe_ixU (K := c.K) hu1 (pv 0) pe_int (fun _ _ => rfl) (fun _ _ => rfl)) (pe_op op_mulU (pe_op op_mulU pe_int (pe_ixU (K := c.K) hu1 (pv 0) pe_int (fun _ _ => rfl) (fun _ _ => rfl))) (pe_ixU (K := c.K) hu1 (pv 0) pe_int (fun _ _ => rfl) (fun _ _ => rfl)))) pe_int) pa_nil)) pe_int) (pv 2)))
    (pss_one (ps_ret (pe_op op_modU (pe_op op_fdU (pe_op op_modU (pe_callTy call_intU (by rfl) B.int (by decide +kernel) (pa_cons (pe_op op_mulU (pv 3) (pe_op (op_addU (K := c.K)) (pe_op op_modU (pe_callTy call_intU (by rfl) B.int (by decide +kernel) (pa_cons (pv 3) pa_nil)) pe_int) (pe_op op_mulU pe_int (pe_ixU (K := c.K) hu1 (pv 0) pe_int (fun _ _ => rfl) (fun _ _ => rfl))))) pa_nil)) pe_int) pe_int) (pv 1)))))))), ?_⟩
    refine .inl ⟨_, rfl, ixL (i := 0) hp rfl (r_gtI ⟨_, rfl, ite2 (fun hc => ?_) (fun hc => ?_)⟩)⟩
    · refine .inl ⟨_, rfl, ixL (i := 0) hp rfl (.inl ⟨_, rfl, ⟨_, rfl, r_mod (by omega) fun r r0 r1 _ => ?_⟩⟩)⟩
      refine .inl ⟨_, rfl, ixL (i := 0) hp rfl ⟨_, rfl, r_fdiv (by omega) (by omega) fun a' _ => ⟨_, rfl, ?_⟩⟩⟩
      refine ⟨p, _, 0, 0, rfl, rfl, hp, rfl, ⟨_, rfl, ?_⟩⟩
      obtain ⟨r', rfl⟩ := Int.eq_ofNat_of_zero_le r0
      exact q r' _ (by omega) (Go.put hp rfl (List.Mem.head _)) ⟨_, b, k, upd_same, hb0, hb1, by omega⟩
    · refine .inl ⟨_, rfl, ixL (i := 2) hp rfl (r_addI ⟨_, rfl, ?_⟩)⟩
      refine ⟨p, _, 2, 2, rfl, rfl, hp, rfl, ?_⟩
      have hp2 : (upd H p (.lst [.int a, .int b, .int ((k + 1 : Nat) : Int)])) p = some (.lst [.int a, .int b, .int ((k + 1 : Nat) : Int)]) := upd_same
      show tSeq _ _ _ _ (upd H p (.lst [.int a, .int b, .int ((k + 1 : Nat) : Int)]))
      generalize hH : upd H p (.lst [.int a, .int b, .int ((k + 1 : Nat) : Int)]) = H2 at hp2 ⊢
      refine .inl ⟨by decide, fun z hz => ?_⟩
      have hzp : z ≠ p := fun e => by subst e; rw [hp2] at hz; cases hz
      have hp3 : ∀ o, (upd H2 z o) p = some (.lst [.int a, .int b, .int ((k + 1 : Nat) : Int)]) := fun o => by rw [upd_ne hzp.symm]; exact hp2
      refine .inl ⟨_, rfl, ixL (i := 2) (hp3 _) rfl (.inl ⟨_, rfl, r_mod (by decide) fun m00 _ _ e00 => ?_⟩)⟩
      obtain ⟨j, pr, hj, e5, hpr, h0, h1⟩ := prime5 (k + 1)
      obtain rfl := e00.trans e5
      refine ixL (i := j) upd_same hpr ?_
      have g0 : Go [p] H H2 := by rw [← hH]; exact Go.put hp rfl (List.Mem.head _)
      have g : Go [p] H (upd H2 z (.lst [.int 2147483647, .int 2147483629, .int 2147483587, .int 2147483579, .int 2147483563])) := g0.trans (Go.new hz)
      have hp4 := hp3 (.lst [.int 2147483647, .int 2147483629, .int 2147483587, .int 2147483579, .int 2147483563])
      generalize upd H2 z _ = H3 at g hp4 ⊢
      have hK : ((k + 1 : Nat) : Int).natAbs < 2 ^ 31 := by omega
      have m1 : CMulW 60017 ((k + 1 : Nat) : Int) := wide_mul (a := 16) (b := 31) (by decide) hK (by decide) (by decide) (by decide)
      have l1 : (60017 * ((k + 1 : Nat) : Int)).natAbs < 2 ^ 47 := wide_lt (a := 16) (b := 31) (by decide) hK
      have m2 : CMulW (60017 * ((k + 1 : Nat) : Int)) ((k + 1 : Nat) : Int) := wide_mul l1 hK (by decide) (by decide) (by decide)
      have l2 : (60017 * ((k + 1 : Nat) : Int) * ((k + 1 : Nat) : Int)).natAbs < 2 ^ 78 := wide_lt l1 hK
      have l3 : CPowW (b + 60017 * ((k + 1 : Nat) : Int) * ((k + 1 : Nat) : Int) + 43) 3 := powW (n := 80) (by decide) (by omega) (by decide) (by decide)
      refine .inl ⟨_, rfl, ixL (i := 1) hp4 rfl ?_⟩
      refine .inl ⟨_, rfl, ixL (i := 2) hp4 rfl (r_mulI m1 ?_)⟩
      refine .inl ⟨_, rfl, ixL (i := 2) hp4 rfl (r_mulI m2 (r_addI (r_addI (.inl ⟨_, rfl, ?_⟩))))⟩
      refine r_pow l3 fun m0 _ => ⟨_, rfl, r_mod h0 fun m n0 n1 _ => ?_⟩
      have m3 : CMulW 89 ((k + 1 : Nat) : Int) := wide_mul (a := 16) (b := 31) (by decide) hK (by decide) (by decide) (by decide)
      refine ⟨_, rfl, _, rfl, .inl ⟨_, rfl, r_mod (by decide) fun m' n2 n3 _ => ?_⟩⟩
      have m4 : CMulW m (m' + 89 * ((k + 1 : Nat) : Int)) := wide_mul (a := 31) (b := 40) (by omega) (by omega) (by decide) (by decide) (by decide)
      refine .inl ⟨_, rfl, ixL (i := 2) hp4 rfl (r_mulI m3 (r_addI (r_mulI m4 (.inl ⟨_, rfl, ?_⟩))))⟩
      refine r_mod (by decide) fun m5 _ _ _ => r_fdiv (by decide) (by decide) fun m6 _ => ⟨_, rfl, r_mod (by omega) fun r r0 r1 _ => ?_⟩
      obtain ⟨r', rfl⟩ := Int.eq_ofNat_of_zero_le r0
      exact q r' _ (by omega) g ⟨a, b, k + 1, hp4, hb0, hb1, by omega⟩
end
end Sd

namespace Sd
open PySem PySem.Spec PyProof.Rows L2 RZ RT

/-- some[take(pot, len(some))] -/
def spOf (c : Wd) : Sp := fun vs H Q _ => ∃ (p l : Addr) (n : Nat) (xs : List V), vs = [.ref p, .ref l] ∧ Pot H p n ∧ n ≤ 2 ^ 30 ∧ xs ≠ [] ∧ xs.length < 2 ^ 29 ∧
  ((l ≠ p ∧ H l = some (.lst xs)) ∨ SqT c.K H l xs) ∧ ∀ (r : Nat) (v : V) (H' : Hp), xs[r]? = some v → Go [p] H H' → Pot H' p (n + 1) → Q v H'
/-- what tells of a thing a truth -/
def spB (c : Wd) (P f : PyData → Bool) : Sp := fun vs H Q _ => ∃ v d, vs = [v] ∧ Dp c.K H v d ∧ P d = true ∧ ∀ H', Go [] H H' → Q (.bl (f d)) H'
def isInteger : PyData → Bool | .int _ => true | _ => false
def isIn (a b : Int) : PyData → Bool | .int i => decide (a ≤ i) && decide (i ≤ b) | _ => false
def spIn (c : Wd) : Sp := fun vs H Q _ => ∃ v d a b, vs = [v, .int a, .int b] ∧ Dp c.K H v d ∧ ∀ H', Go [] H H' → Q (.bl (isIn a b d)) H'
/-- texts are not too long -/
def szT : PyData → Bool | .str s => decide (s.length ≤ 100000) | _ => true
def lettersZ : Str := "abcdefghijklmnopqrstuvwxyz"
def isNameS (s : Str) : Bool := (decide (1 ≤ s.length) && decide (s.length ≤ 8)) && s.cps.toList.all fun c => decide (c ∈ lettersZ.cps.toList)
def isName : PyData → Bool | .str s => isNameS s | _ => false
structure Bc (c : Wd) : Prop where
  LONGEST_NAME : ∃ t, c.mg "LONGEST_NAME" = some (.int 8 t)
  LETTERS : ∃ t, c.mg "LETTERS" = some (.str lettersZ t)

section
variable {c : Wd}
abbrev s_is_integer : Stmt := topS 15
abbrev N_is_integer : List Str := ["value"]
abbrev P_is_integer : List Str := ["value"]
theorem sc_is_integer : FnScope N_is_integer P_is_integer (defScope s_is_integer) := ⟨rfl, rfl, rfl, by decide +kernel, rfl, by decide +kernel, by decide +kernel⟩
theorem ok_is_integer (F : At c "is_integer" "is_integer" s_is_integer P_is_integer) (B : Bi c) : Ok c "is_integer" 1 P_is_integer (spB c (fun _ => true) isInteger) := by
  refine Ok.of F sc_is_integer (fun vs H Q E h => ?_) (fun f cdv A out s H vs Q E hr h => ?_)
  · obtain ⟨v, d, rfl, _⟩ := h
    rfl
  · obtain ⟨v, d, rfl, hd, _, q⟩ := h
    refine ⟨_, (pss_one (ps_ret (pe_and (pe_callB (call_isiU (K := c.K)) (by rfl) B.isinstance (by decide +kernel) (pa_cons (pv 0) (pa_cons (pe_ty "int" "int" (by rfl) B.int (by decide +kernel)) pa_nil))) (pe_one (pe_not (pe_callB (call_isiU (K := c.K)) (by rfl) B.isinstance (by decide +kernel) (pa_cons (pv 0) (pa_cons (pe_ty "bool" "bool" (by rfl) B.bool (by decide +kernel)) pa_nil)))))))), ?_⟩
    refine ⟨_, rfl, r_c (r_nil (r_isInt hd ⟨_, rfl, ?_⟩))⟩
    have q' := q H (Go.refl _ _)
    cases d <;> first
      | exact q'
      | exact ⟨_, rfl, r_c (r_nil (r_isBool hd ⟨_, rfl, q'⟩))⟩

abbrev s_is_integer_in : Stmt := topS 16
abbrev N_is_integer_in : List Str := ["value", "least", "greatest"]
abbrev P_is_integer_in : List Str := ["value", "least", "greatest"]
theorem sc_is_integer_in : FnScope N_is_integer_in P_is_integer_in (defScope s_is_integer_in) := ⟨rfl, rfl, rfl, by decide +kernel, rfl, by decide +kernel, by decide +kernel⟩
theorem ok_is_integer_in (F : At c "is_integer_in" "is_integer_in" s_is_integer_in P_is_integer_in) (B : Bi c) (D_is_integer : Ok c "is_integer" 1 P_is_integer (spB c (fun _ => true) isInteger)) :
    Ok c "is_integer_in" 2 P_is_integer_in (spIn c) := by
  refine Ok.of F sc_is_integer_in (fun vs H Q E h => ?_) (fun f cdv A out s H vs Q E hr h => ?_)
  · obtain ⟨v, d, a, b, rfl, _⟩ := h
    rfl
  · obtain ⟨v, d, a, b, rfl, hd, q⟩ := h
    refine ⟨_, (pss_one (ps_ret (pe_and (pe_f D_is_integer (hr.mono (by decide)) (by rfl) (pa_cons (pv 0) pa_nil)) (pe_one (pe_chain op_le op_le (pv 1) (pv 0) (pv 2)))))), ?_⟩
    refine ⟨_, rfl, v, d, rfl, hd, rfl, fun H' g => ⟨_, rfl, ?_⟩⟩
    have q' := q H' g
    cases d <;> first
      | exact q'
      | skip
    rename_i i
    cases hd
    refine ⟨_, rfl, _, rfl, _, _, rfl, rfl, _, rfl, ite2 (fun h1 => ⟨_, rfl, _, _, rfl, rfl, ?_⟩) (fun h1 => ?_)⟩
    · simp only [isIn, decide_eq_true_eq] at q' h1
      simpa only [h1, decide_true, Bool.true_and] using q'
    · simp only [isIn, decide_eq_true_eq] at q' h1
      simpa only [h1, decide_false, Bool.false_and] using q'

abbrev s_is_name : Stmt := topS 17
abbrev N_is_name : List Str := ["value", "letter"]
abbrev P_is_name : List Str := ["value"]
theorem sc_is_name : FnScope N_is_name P_is_name (defScope s_is_name) := ⟨rfl, rfl, rfl, by decide +kernel, rfl, by decide +kernel, by decide +kernel⟩
theorem ok_is_name (F : At c "is_name" "is_name" s_is_name P_is_name) (B : Bi c) (B' : Bc c) : Ok c "is_name" 1 P_is_name (spB c szT isName) := by
  refine Ok.of F sc_is_name (fun vs H Q E h => ?_) (fun f cdv A out s H vs Q E hr h => ?_)
  · obtain ⟨v, d, rfl, _⟩ := h
    rfl
  · obtain ⟨v, d, rfl, hd, hz, q⟩ := h
    have hu1 := hu_of hr
    have hu5 := hr.u5
    refine ⟨_, (pss_cons (ps_if (PW.pt (pw_or (pt_not (pt_val (pe_callB (call_isiU (K := c.K)) (by rfl) B.isinstance (by decide +kernel) (pa_cons (pv 0) (pa_cons (pe_ty "str" "str" (by rfl) B.str (by decide +kernel)) pa_nil))))) (pw_or1 (pt_not (pt_chain op_le op_le pe_int (pe_callB (call_lenU (K := c.K)) (by rfl) B.len (by decide +kernel) (pa_cons (pv 0) pa_nil)) (pe_gi B'.LONGEST_NAME)))))) (pss_one (ps_ret pe_bl)) pss_nil)
    (pss_one (ps_ret (pe_callB (call_allU (K := c.K) rfl) (by rfl) B.all (by decide +kernel) (pa_cons (pe_lc (own := [("letter", 1)]) rfl sc_is_name.nd (pi_seq (K := c.K) (pv 0)) (blkOk_by (N := N_is_name) (sc := defScope s_is_name) (by decide +kernel)) (fun _ _ _ _ _ => (pg_name (i := 1) sc_is_name.nd rfl (by first | exact Or.inl rfl | exact Or.inr rfl))) (fun _ _ _ _ _ => pts_nil) (fun _ _ _ _ _ => (pe_cmpR (op_inU (K := c.K) hu5) (pv 1) (pe_gs B'.LETTERS) (by rfl)))) pa_nil))))), ?_⟩
    refine ⟨_, rfl, r_c (r_nil (r_isStr hd ⟨_, rfl, ?_⟩))⟩
    have q' := q H (Go.refl _ _)
    cases d <;> first
      | exact q'
      | skip
    cases hd
    rename_i x
    have hx : x.length ≤ sizeLine := Nat.le_trans (by simpa [szT] using hz) (by decide)
    refine ⟨_, rfl, r_nil (r_lenS hx ⟨_, _, rfl, rfl, _, rfl, ite2 (fun h1 => ⟨_, _, rfl, rfl, _, rfl, ite2 (fun h2 => ?_) (fun h2 => ?_)⟩) (fun h1 => ⟨_, rfl, ?_⟩)⟩)⟩
    · have e : isName (.str x) = false := by
        have h2' : ¬ x.length ≤ 8 := by
          simp at h2
          omega
        simp [isName, isNameS, h2']
      rw [e] at q'
      exact q'
    · have e1 : 1 ≤ x.length := by
        have : (1 : Int) ≤ ((x.length : Nat) : Int) := by simpa using h1
        omega
      have e2 : x.length ≤ 8 := by
        simp at h2
        omega
      refine .inr ⟨_, rfl, x, rfl, fun D hD => lc_map walk_sg [] (fun _ _ => True) (fun i y _ => ∃ k, x.cps[i]? = some k ∧ y = .bl (decide (k ∈ lettersZ.cps.toList))) yk_sg
        (show x.length ≤ 100000 by omega) hD (fun _ h => nomatch h) (fun _ _ => trivial) trivial (fun _ _ _ _ _ => trivial) (fun _ _ _ _ _ _ h => h) ?_ ?_⟩
      · rintro i y H1 H2 Fin hi g1 gy _ ⟨rfl, k, hk, rfl⟩ fin
        exact ⟨rfl, _, rfl, r_c (r_inSg (fin _ _ (Go.refl _ _) trivial ⟨k, hk, rfl⟩))⟩
      · intro H1 ys g1 _ hD1 hl hr'
        have ey : ys = (x.cps.toList.map fun k => decide (k ∈ lettersZ.cps.toList)).map V.bl := by
          rw [List.map_map]
          refine list_of (by simpa using hl) fun i y e => ?_
          obtain ⟨k, h1, h2⟩ := hr' i y e
          exact ⟨k, by simpa using h1, h2⟩
        subst ey
        refine r_nil (r_all (SqL.of hD1) ?_)
        have e : isName (.str x) = (x.cps.toList.map fun k => decide (k ∈ lettersZ.cps.toList)).all id := by
          simp [isName, isNameS, e1, e2, List.all_map]
        have q2 := q H1 g1
        rw [e] at q2
        exact q2
    · have e : isName (.str x) = false := by
        have h1' : ¬ 1 ≤ x.length := fun z => h1 (by simp; omega)
        simp [isName, isNameS, h1']
      rw [e] at q'
      exact q'
end
end Sd

namespace Sd
open PySem PySem.Spec PyProof.Rows L2 RZ RT

def ltS (a b : Str) : Bool := decide (a.cps.toList < b.cps.toList)
def ascS (ss : List Str) : Bool := ((ss.zip (ss.drop 1)).map fun p => ltS p.1 p.2).all id
def spAsc (c : Wd) : Sp := fun vs H Q _ => ∃ (a : Addr) (ss : List Str), vs = [.ref a] ∧ SqT c.K H a (ss.map V.str) ∧ ss.length ≤ 100000 ∧ ∀ H', Go [] H H' → Q (.bl (ascS ss)) H'
/-- the texts of a row of things -/
def strsOf : List PyData → List Str
  | [] => []
  | .str s :: ds => s :: strsOf ds
  | _ :: ds => strsOf ds
def szTs : PyData → Bool | .tuple ds => ds.all szT && decide (ds.length ≤ 100000) | _ => true
def ascNames : PyData → Bool | .tuple ds => ds.all isName && ascS (strsOf ds) | _ => false
theorem strs_of_names : ∀ {ds : List PyData}, ds.all isName = true → ds = (strsOf ds).map PyData.str
  | [], _ => rfl
  | d :: ds, h => by
    have h1 : isName d = true ∧ ds.all isName = true := by simpa only [List.all_cons, Bool.and_eq_true] using h
    cases d <;> first
      | exact absurd h1.1 Bool.false_ne_true
      | exact congrArg (PyData.str _ :: ·) (strs_of_names h1.2)

section
variable {c : Wd}
abbrev s_is_ascending : Stmt := topS 18
abbrev N_is_ascending : List Str := ["values", "one", "other"]
abbrev P_is_ascending : List Str := ["values"]
theorem sc_is_ascending : FnScope N_is_ascending P_is_ascending (defScope s_is_ascending) := ⟨rfl, rfl, rfl, by decide +kernel, rfl, by decide +kernel, by decide +kernel⟩
theorem ok_is_ascending (F : At c "is_ascending" "is_ascending" s_is_ascending P_is_ascending) (B : Bi c) : Ok c "is_ascending" 1 P_is_ascending (spAsc c) := by
  refine Ok.of F sc_is_ascending (fun vs H Q E h => ?_) (fun f cdv A out s H vs Q E hr h => ?_)
  · obtain ⟨a, ss, rfl, _⟩ := h
    rfl
  · obtain ⟨a, ss, rfl, hs, hz, q⟩ := h
    refine ⟨_, (pss_one (ps_ret (pe_callB (call_allU (K := c.K) rfl) (by rfl) B.all (by decide +kernel) (pa_cons (pe_lc (own := [("one", 1), ("other", 2)]) rfl sc_is_ascending.nd (pi_zipU (K := c.K) (by rfl) B.zip (pa_cons (pv 0) (pa_cons (pe_slice (sl_U (K := c.K)) (pv 0) (po_some pe_int) po_none) pa_nil))) (blkOk_by (N := N_is_ascending) (sc := defScope s_is_ascending) (by decide +kernel)) (fun _ _ _ _ _ => (pg_tupU (K := c.K) (n := 2) rfl (pgs_cons (pg_name (i := 1) sc_is_ascending.nd rfl (by first | exact Or.inl rfl | exact Or.inr rfl)) (pgs_cons (pg_name (i := 2) sc_is_ascending.nd rfl (by first | exact Or.inl rfl | exact Or.inr rfl)) pgs_nil)))) (fun _ _ _ _ _ => pts_nil) (fun _ _ _ _ _ => (pe_cmpR op_ltU (pv 1) (pv 2) (nomark _)))) pa_nil)))), ?_⟩
    refine ⟨_, rfl, _, rfl, ⟨1, rfl, r_slT hs fun b H1 g1 hb => ?_⟩⟩
    have hb' : SqT c.K H1 b ((ss.drop 1).map V.str) := by
      have : cutV (ss.map V.str) (some ((1 : Nat) : Int)) none = (ss.drop 1).map V.str := by rw [cut_from, List.map_drop]
      rw [← this]
      exact hb
    refine ⟨a, b, _, _, rfl, .inr ⟨g1.sqT hs, hb', fun D hD => ?_⟩⟩
    refine lc_map (walk_zipT (n := (ss.zip (ss.drop 1)).length) (by simp)) [] (fun _ _ => True) (fun i y _ => ∃ p, (ss.zip (ss.drop 1))[i]? = some p ∧ y = .bl (ltS p.1 p.2)) yk_pair
      (by simp; omega) hD (fun _ h => nomatch h) (fun H' g => ⟨g.sqT (g1.sqT hs), g.sqT hb'⟩) trivial (fun _ _ _ _ _ => trivial) (fun _ _ _ _ _ _ h => h) ?_ ?_
    · rintro i y H2 H3 Fin hi g2 g3 _ ⟨T, x1, x2, rfl, hT, rfl, hx, hy⟩ fin
      have hx := hx
      have hy := hy
      dsimp only at hx hy
      rw [List.getElem?_map] at hx hy
      obtain ⟨s1, e1, rfl⟩ := Option.map_eq_some_iff.mp hx
      obtain ⟨s2, e2, rfl⟩ := Option.map_eq_some_iff.mp hy
      refine ⟨T, _, rfl, SqT.of upd_same, rfl, _, _, rfl, _, _, rfl, ?_⟩
      refine ⟨rfl, rfl, _, rfl, _, rfl, .inr ⟨s1, s2, rfl, rfl, fin _ _ g3 trivial ⟨(s1, s2), ?_, rfl⟩⟩⟩
      rw [List.getElem?_zip_eq_some]
      exact ⟨e1, e2⟩
    · intro H2 ys g2 _ hD2 hl hr'
      have ey : ys = ((ss.zip (ss.drop 1)).map fun p => ltS p.1 p.2).map V.bl := by
        rw [List.map_map]
        exact list_of hl fun i y e => hr' i y e
      subst ey
      exact r_nil (r_all (SqL.of hD2) (q H2 (g1.trans g2)))
abbrev s_are_ascending_names : Stmt := topS 19
abbrev N_are_ascending_names : List Str := ["value", "name"]
abbrev P_are_ascending_names : List Str := ["value"]
theorem sc_are_ascending_names : FnScope N_are_ascending_names P_are_ascending_names (defScope s_are_ascending_names) := ⟨rfl, rfl, rfl, by decide +kernel, rfl, by decide +kernel, by decide +kernel⟩
theorem ok_are_ascending_names (F : At c "are_ascending_names" "are_ascending_names" s_are_ascending_names P_are_ascending_names) (B : Bi c) (D_is_name : Ok c "is_name" 1 P_is_name (spB c szT isName))
    (D_is_ascending : Ok c "is_ascending" 1 P_is_ascending (spAsc c)) : Ok c "are_ascending_names" 2 P_are_ascending_names (spB c szTs ascNames) := by
  refine Ok.of F sc_are_ascending_names (fun vs H Q E h => ?_) (fun f cdv A out s H vs Q E hr h => ?_)
  · obtain ⟨v, d, rfl, _⟩ := h
    rfl
  · obtain ⟨v, d, rfl, hd, hz, q⟩ := h
    refine ⟨_, (pss_one (ps_ret (pe_and (pe_callB (call_isiU (K := c.K)) (by rfl) B.isinstance (by decide +kernel) (pa_cons (pv 0) (pa_cons (pe_ty "tuple" "tuple" (by rfl) B.tuple (by decide +kernel)) pa_nil))) (pe_and (pe_callB (call_allU (K := c.K) rfl) (by rfl) B.all (by decide +kernel) (pa_cons (pe_lc (own := [("name", 1)]) rfl sc_are_ascending_names.nd (pi_seq (K := c.K) (pv 0)) (blkOk_by (N := N_are_ascending_names) (sc := defScope s_are_ascending_names) (by decide +kernel)) (fun _ _ _ _ _ => (pg_name (i := 1) sc_are_ascending_names.nd rfl (by first | exact Or.inl rfl | exact Or.inr rfl))) (fun _ _ _ _ _ => pts_nil) (fun _ _ _ _ _ => (pe_f D_is_name (hr.mono (by decide)) (by rfl) (pa_cons (pv 1) pa_nil)))) pa_nil)) (pe_one (pe_f D_is_ascending (hr.mono (by decide)) (by rfl) (pa_cons (pv 0) pa_nil))))))), ?_⟩
    refine ⟨_, rfl, r_c (r_nil (r_isTup hd ⟨_, rfl, ?_⟩))⟩
    have q' := q H (Go.refl _ _)
    cases d <;> first
      | exact q'
      | skip
    rename_i ds
    obtain ⟨a, xs, rfl, hs, hA⟩ := dp_tup_inv hd
    simp only [szTs, Bool.and_eq_true, List.all_eq_true, decide_eq_true_eq] at hz
    have hlen := DpAll.len hA
    refine .inl (.inr ⟨_, rfl, a, rfl, ⟨xs, hs⟩, fun D hD => ?_⟩)
    refine lc_map (walk_tup (xs := xs)) [] (fun _ _ => True) (fun i y _ => ∃ p, ds[i]? = some p ∧ y = .bl (isName p)) yk_at
      (by omega) hD (fun _ h => nomatch h) (fun H' g => g.sqT hs) trivial (fun _ _ _ _ _ => trivial) (fun _ _ _ _ _ _ h => h) ?_ ?_
    · rintro i y H2 H3 Fin hi g2 g3 _ ⟨rfl, hx⟩ fin
      obtain ⟨p, hp, hdp⟩ := DpAll.at hA hx
      refine ⟨rfl, _, rfl, ?_⟩
      exact ⟨y, p, rfl, Dp.go0 g2 hdp, hz.1 p (List.mem_of_getElem? hp), fun H' g => fin _ _ g trivial ⟨p, hp, rfl⟩⟩
    · intro H2 ys g2 _ hD2 hl hr'
      have ey : ys = (ds.map isName).map V.bl := by
        rw [List.map_map]
        exact list_of (by omega) fun i y e => hr' i y e
      subst ey
      refine r_nil (r_all (SqL.of hD2) ⟨_, rfl, ?_⟩)
      have q2 := q H2 g2
      by_cases hn : ds.all isName = true
      · have e1 : (ds.map isName).all id = true := by simpa [List.all_map] using hn
        rw [e1]
        refine iteT ?_
        have e2 := strs_of_names hn
        have hs2 : SqT c.K H2 a ((strsOf ds).map V.str) := by
          have : xs = (strsOf ds).map V.str := DpAll.strs_inv (e2 ▸ hA)
          rw [← this]
          exact g2.sqT hs
        have hl2 : (strsOf ds).length = ds.length := by
          have := congrArg List.length e2
          simpa using this.symm
        refine ⟨_, rfl, a, strsOf ds, rfl, hs2, by omega, fun H' g => ?_⟩
        have q3 := q H' (g2.trans g)
        simp only [ascNames, hn, Bool.true_and] at q3
        exact q3
      · have e1 : (ds.map isName).all id = false := by simpa [List.all_map] using hn
        have e3 : ds.all isName = false := by simpa using hn
        rw [e1]
        simp only [ascNames, e3, Bool.false_and] at q2
        exact iteF q2
end
end Sd

namespace Sd
open PySem PySem.Spec PyProof.Rows L2 RZ RT

/-! ### a machine's parts, as they are passed -/
structure Stp where
  name : Str
  page : Option Str
  fol : List Str
def pgV : Option Str → V
  | none => .non
  | some p => .str p
def pgD : Option Str → PyData
  | none => .none
  | some p => .str p
def namesD (ss : List Str) : PyData := .tuple (ss.map PyData.str)
def IsStp (K : PySem.W.Frag) (H : Hp) (s : Stp) (v : V) : Prop := ∃ b f, v = .ref b ∧ SqT K H b [.str s.name, pgV s.page, .ref f] ∧ SqT K H f (s.fol.map V.str)
theorem IsStp.go {K : PySem.W.Frag} {M : List Addr} {H H' : Hp} {s : Stp} {v : V} (h : IsStp K H s v) (g : Go M H H') : IsStp K H' s v := by
  obtain ⟨b, f, e, h1, h2⟩ := h
  exact ⟨b, f, e, g.sqT h1, g.sqT h2⟩
theorem dpA_strs {K : PySem.W.Frag} {H : Hp} : ∀ ss : List Str, DpAll K H (ss.map V.str) (ss.map PyData.str)
  | [] => .nil
  | s :: ss => .cons (.str s) (dpA_strs ss)
theorem dp_names {K : PySem.W.Frag} {H : Hp} {a : Addr} {ss : List Str} (h : SqT K H a (ss.map V.str)) : Dp K H (.ref a) (namesD ss) := .tup h (dpA_strs ss)
theorem dp_pg {K : PySem.W.Frag} {H : Hp} : ∀ p : Option Str, Dp K H (pgV p) (pgD p)
  | none => .non
  | some p => .str p
theorem IsStp.dp {K : PySem.W.Frag} {H : Hp} {s : Stp} {v : V} (h : IsStp K H s v) : Dp K H v (.tuple [.str s.name, pgD s.page, namesD s.fol]) := by
  obtain ⟨b, f, rfl, h1, h2⟩ := h
  exact .tup h1 (.cons (.str _) (.cons (dp_pg _) (.cons (dp_names h2) .nil)))
/-- names that ascend -/
def namesB (ss : List Str) : Bool := ss.all isNameS && ascS ss
theorem strsOf_map : ∀ ss : List Str, strsOf (ss.map PyData.str) = ss
  | [] => rfl
  | s :: ss => congrArg (s :: ·) (strsOf_map ss)
theorem ascNames_names {ss : List Str} (h : namesB ss = true) : ascNames (namesD ss) = true := by
  simp only [namesB, Bool.and_eq_true] at h
  simp only [ascNames, namesD, strsOf_map, h.2, Bool.and_true, List.all_map]
  exact h.1
theorem name_sz {s : Str} (h : isNameS s = true) : s.length ≤ 8 := by
  simp only [isNameS, Bool.and_eq_true, decide_eq_true_eq] at h
  exact h.1.2
theorem names_sz {ss : List Str} (h : namesB ss = true) (hl : ss.length ≤ 100000) : szTs (namesD ss) = true := by
  simp only [namesB, Bool.and_eq_true, List.all_eq_true] at h
  simp only [szTs, namesD, Bool.and_eq_true, List.all_eq_true, decide_eq_true_eq, List.length_map]
  refine ⟨fun d hd => ?_, hl⟩
  obtain ⟨s, hs, rfl⟩ := List.mem_map.mp hd
  have := name_sz (h.1 s hs)
  simp [szT]
  omega
def pageB : Option Str → Bool
  | none => true
  | some p => isNameS p
def stpB (s : Stp) : Bool := isNameS s.name && (pageB s.page && (namesB s.fol && decide (s.fol.length ≤ 3)))
/-- a right step is one -/
def spStp (c : Wd) : Sp := fun vs H Q _ => ∃ v s, vs = [v] ∧ IsStp c.K H s v ∧ stpB s = true ∧ ∀ H', Go [] H H' → Q (.bl true) H'
structure Bm (c : Wd) : Prop where
  MOST_STEPS : ∃ t, c.mg "MOST_STEPS" = some (.int 8 t)
  MOST_FOLLOWING : ∃ t, c.mg "MOST_FOLLOWING" = some (.int 3 t)
  MOST_TURNS : ∃ t, c.mg "MOST_TURNS" = some (.int 3 t)
  MOST_TICKS : ∃ t, c.mg "MOST_TICKS" = some (.int 3 t)
  LEAST_PAGES : ∃ t, c.mg "LEAST_PAGES" = some (.int 2 t)
  MOST_PAGES : ∃ t, c.mg "MOST_PAGES" = some (.int 4 t)
  MOST_MOVE : ∃ t, c.mg "MOST_MOVE" = some (.int 9 t)
  combinations : c.mg "combinations" = some (.type "itertools.combinations")
section
variable {c : Wd}
abbrev s_is_step : Stmt := topS 41
abbrev N_is_step : List Str := ["value", "name", "page", "following"]
abbrev P_is_step : List Str := ["value"]
theorem sc_is_step : FnScope N_is_step P_is_step (defScope s_is_step) := ⟨rfl, rfl, rfl, by decide +kernel, rfl, by decide +kernel, by decide +kernel⟩
theorem ok_is_step (F : At c "is_step" "is_step" s_is_step P_is_step) (B : Bi c) (B' : Bm c) (D_is_name : Ok c "is_name" 1 P_is_name (spB c szT isName)) (D_are_ascending_names : Ok c "are_ascending_names" 2 P_are_ascending_names (spB c szTs ascNames)) : Ok c "is_step" 3 P_is_step (spStp c) := by
  refine Ok.of F sc_is_step (fun vs H Q E h => ?_) (fun f cdv A out s H vs Q E hr h => ?_)
  · obtain ⟨v, s, rfl, _⟩ := h
    rfl
  · obtain ⟨v, st, rfl, hs, hb, q⟩ := h
    have hu1 := hu_of hr
    have hu := hr.units
    simp only [stpB, Bool.and_eq_true, decide_eq_true_eq] at hb
    obtain ⟨b1, b2, b3, b4⟩ := hb
    refine ⟨_, (pss_cons (ps_if (PW.pt (pw_or (pt_not (pt_val (pe_callB (call_isiU (K := c.K)) (by rfl) B.isinstance (by decide +kernel) (pa_cons (pv 0) (pa_cons (pe_ty "tuple" "tuple" (by rfl) B.tuple (by decide +kernel)) pa_nil))))) (pw_or1 (pt_cmpR (op_neU (K := c.K) hu) (pe_callB (call_lenU (K := c.K)) (by rfl) B.len (by decide +kernel) (pa_cons (pv 0) pa_nil)) pe_int (nomark _))))) (pss_one (ps_ret pe_bl)) pss_nil)
    (pss_cons (ps_asg (pv 0) (pg_tupU (K := c.K) (n := 3) rfl (pgs_cons (pg_name (i := 1) sc_is_step.nd rfl (by first | exact Or.inl rfl | exact Or.inr rfl)) (pgs_cons (pg_name (i := 2) sc_is_step.nd rfl (by first | exact Or.inl rfl | exact Or.inr rfl)) (pgs_cons (pg_name (i := 3) sc_is_step.nd rfl (by first | exact Or.inl rfl | exact Or.inr rfl)) pgs_nil)))))
    (pss_cons (ps_if (PW.pt (pw_or (pt_not (pt_val (pe_f D_is_name (hr.mono (by decide)) (by rfl) (pa_cons (pv 1) pa_nil)))) (pw_or1 (pt_not (PW.pt (pw_or (pt_cmpR op_isN (pv 2) pe_non (nomark _)) (pw_or1 (pt_val (pe_f D_is_name (hr.mono (by decide)) (by rfl) (pa_cons (pv 2) pa_nil)))))))))) (pss_one (ps_ret pe_bl)) pss_nil)
    (pss_one (ps_ret (pe_and (pe_f D_are_ascending_names (hr.mono (by decide)) (by rfl) (pa_cons (pv 3) pa_nil)) (pe_one (pe_cmpR op_le (pe_callB (call_lenU (K := c.K)) (by rfl) B.len (by decide +kernel) (pa_cons (pv 3) pa_nil)) (pe_gi B'.MOST_FOLLOWING) (nomark _))))))))), ?_⟩
    refine ⟨_, rfl, r_c (r_nil (r_isTup hs.dp ⟨_, rfl, ?_⟩))⟩
    refine (if_neg (by simp [isTup])).mpr ?_
    obtain ⟨b, fo, rfl, h1, h2⟩ := id hs
    refine ⟨_, rfl, r_nil (r_lenT h1 ?_)⟩
    refine .inl ⟨rfl, _, rfl, (if_neg (by simp)).mpr ?_⟩
    refine ⟨_, rfl, b, _, rfl, h1, rfl, _, _, rfl, _, _, rfl, _, _, rfl, rfl, ?_⟩
    refine ⟨_, rfl, _, .str st.name, rfl, .str _, by simp [szT]; have := name_sz b1; omega, fun H1 g1 => ⟨_, rfl, ?_⟩⟩
    refine (if_neg (by simp [isName, b1])).mpr ?_
    have rest : ∀ H2, Go [] H H2 → ∀ (Q' : VK), Q' = Q → tAndV (tCall (spB c szTs ascNames) [] E0 (tCons (tVar 3) tNil)) (tOp (fun x y H Q => (rI0 fun i j => .bl (decide (i ≤ j))) x y H Q) (tCB (rLenU c.K) (tCons (tVar 3) tNil)) (tC (.int 3))) [some (.ref b), some (.str st.name), some (pgV st.page), some (.ref fo)] H2 Q' := by
      intro H2 g2 Q' e
      subst e
      have len3 : st.fol.length ≤ 100000 := by omega
      refine ⟨_, rfl, _, namesD st.fol, rfl, dp_names (g2.sqT h2), names_sz b3 len3, fun H3 g3 => ⟨_, rfl, ?_⟩⟩
      rw [ascNames_names b3]
      refine (if_pos rfl).mpr ?_
      refine ⟨_, rfl, r_nil (r_lenT (g3.sqT (g2.sqT h2)) ⟨_, 3, rfl, rfl, ?_⟩)⟩
      have e : decide ((((st.fol.map V.str).length : Nat) : Int) ≤ 3) = true := by simp; omega
      show Q' (.bl (decide ((((st.fol.map V.str).length : Nat) : Int) ≤ 3))) H3
      rw [e]
      exact q _ (g2.trans g3)
    cases hpg : st.page with
    | none =>
      rw [hpg] at rest
      refine ⟨_, rfl, rfl, _, rfl, (if_pos (by simp [pgV])).mpr ?_⟩
      refine (if_neg (by decide)).mpr ?_
      exact rest H1 g1 Q rfl
    | some pg =>
      rw [hpg] at rest b2
      have b2 : isNameS pg = true := b2
      refine ⟨_, rfl, rfl, _, rfl, (if_neg (by simp [pgV])).mpr ?_⟩
      refine ⟨_, rfl, _, .str pg, rfl, .str _, by simp [szT]; have := name_sz b2; omega, fun H2 g2 => ⟨_, rfl, ?_⟩⟩
      refine (if_neg (by simp [isName, b2])).mpr ?_
      exact rest H2 (g1.trans g2) Q rfl
end
end Sd

namespace Sd
open PySem PySem.Spec PyProof.Rows L2 RZ RT

def clockB (ns : List Nat) : Bool := decide (1 ≤ ns.length) && (decide (ns.length ≤ 3) && ns.all fun n => decide (1 ≤ n) && decide (n ≤ 3))
def intsV (ns : List Nat) : List V := ns.map fun (n : Nat) => V.int (n : Int)
theorem dpA_ints {K : PySem.W.Frag} {H : Hp} : ∀ ns : List Nat, DpAll K H (intsV ns) (ns.map fun (n : Nat) => PyData.int (n : Int))
  | [] => .nil
  | n :: ns => .cons (.int _) (dpA_ints ns)
/-- a right clock is one -/
def spClock (c : Wd) : Sp := fun vs H Q _ => ∃ a ns, vs = [.ref a] ∧ SqT c.K H a (intsV ns) ∧ clockB ns = true ∧ ∀ H', Go [] H H' → Q (.bl true) H'
/-- right pages for these steps are some -/
def pagesB (ss : List Stp) (ps : List Str) : Bool := namesB ps && (decide (2 ≤ ps.length) && (decide (ps.length ≤ 4) && ss.all fun s => match s.page with | none => true | some p => decide (p ∈ ps)))
def AreStps (K : PySem.W.Frag) (H : Hp) (a : Addr) (ss : List Stp) : Prop := ∃ vs, SqT K H a vs ∧ vs.length = ss.length ∧ ∀ (i : Nat) (v : V) (s : Stp), vs[i]? = some v → ss[i]? = some s → IsStp K H s v
theorem AreStps.go {K : PySem.W.Frag} {M : List Addr} {H H' : Hp} {a : Addr} {ss : List Stp} (h : AreStps K H a ss) (g : Go M H H') : AreStps K H' a ss := by
  obtain ⟨vs, h1, h2, h3⟩ := h
  exact ⟨vs, g.sqT h1, h2, fun i v s e1 e2 => (h3 i v s e1 e2).go g⟩
def spPages (c : Wd) : Sp := fun vs H Q _ => ∃ a b ss ps, vs = [.ref a, .ref b] ∧ AreStps c.K H a ss ∧ ss.length ≤ 1000 ∧ SqT c.K H b (ps.map V.str) ∧ pagesB ss ps = true ∧ ∀ H', Go [] H H' → Q (.bl true) H'
def setB (ps fs : List Str) : Bool := namesB fs && (decide (1 ≤ fs.length) && (decide (fs.length < ps.length) && fs.all fun f => decide (f ∈ ps)))
def spSet (c : Wd) : Sp := fun vs H Q _ => ∃ a b ps fs, vs = [.ref a, .ref b] ∧ SqT c.K H a (ps.map V.str) ∧ SqT c.K H b (fs.map V.str) ∧ ps.length ≤ 1000 ∧ setB ps fs = true ∧ ∀ H', Go [] H H' → Q (.bl true) H'
theorem flat_strs (ps : List Str) : (ps.map V.str).all flatV = true := by
  rw [List.all_map]
  exact List.all_eq_true.mpr fun _ _ => rfl
theorem inV_strs (p : Str) (ps : List Str) : inV (.str p) (ps.map V.str) = decide (p ∈ ps) := by
  induction ps with
  | nil => rfl
  | cons q ps ih =>
    show (eqV (.str q) (.str p) || inV (.str p) (ps.map V.str)) = _
    rw [ih]
    show ((q == p) || decide (p ∈ ps)) = _
    by_cases h : q = p
    · subst h; simp
    · have h2 : ¬ p = q := fun e => h e.symm
      simp [h, h2]
section
variable {c : Wd}
abbrev s_is_clock : Stmt := topS 43
abbrev N_is_clock : List Str := ["value", "ticks"]
abbrev P_is_clock : List Str := ["value"]
theorem sc_is_clock : FnScope N_is_clock P_is_clock (defScope s_is_clock) := ⟨rfl, rfl, rfl, by decide +kernel, rfl, by decide +kernel, by decide +kernel⟩
theorem ok_is_clock (F : At c "is_clock" "is_clock" s_is_clock P_is_clock) (B : Bi c) (B' : Bm c) (D_is_integer_in : Ok c "is_integer_in" 2 P_is_integer_in (spIn c)) : Ok c "is_clock" 3 P_is_clock (spClock c) := by
  refine Ok.of F sc_is_clock (fun vs H Q E h => ?_) (fun f cdv A out s H vs Q E hr h => ?_)
  · obtain ⟨a, ns, rfl, _⟩ := h
    rfl
  · obtain ⟨a, ns, rfl, hs, hb, q⟩ := h
    have hu1 := hu_of hr
    have hu := hr.units
    simp only [clockB, Bool.and_eq_true, decide_eq_true_eq, List.all_eq_true] at hb
    obtain ⟨b1, b2, b3⟩ := hb
    have hd : Dp c.K H (.ref a) (.tuple (ns.map fun (n : Nat) => PyData.int (n : Int))) := .tup hs (dpA_ints ns)
    have hlen : (intsV ns).length = ns.length := by simp [intsV]
    refine ⟨_, (pss_cons (ps_if (PW.pt (pw_or (pt_not (pt_val (pe_callB (call_isiU (K := c.K)) (by rfl) B.isinstance (by decide +kernel) (pa_cons (pv 0) (pa_cons (pe_ty "tuple" "tuple" (by rfl) B.tuple (by decide +kernel)) pa_nil))))) (pw_or1 (pt_not (pt_chain op_le op_le pe_int (pe_callB (call_lenU (K := c.K)) (by rfl) B.len (by decide +kernel) (pa_cons (pv 0) pa_nil)) (pe_gi B'.MOST_TURNS)))))) (pss_one (ps_ret pe_bl)) pss_nil)
    (pss_one (ps_ret (pe_callB (call_allU (K := c.K) rfl) (by rfl) B.all (by decide +kernel) (pa_cons (pe_lc (own := [("ticks", 1)]) rfl sc_is_clock.nd (pi_seq (K := c.K) (pv 0)) (blkOk_by (N := N_is_clock) (sc := defScope s_is_clock) (by decide +kernel)) (fun _ _ _ _ _ => (pg_name (i := 1) sc_is_clock.nd rfl (by first | exact Or.inl rfl | exact Or.inr rfl))) (fun _ _ _ _ _ => pts_nil) (fun _ _ _ _ _ => (pe_f D_is_integer_in (hr.mono (by decide)) (by rfl) (pa_cons (pv 1) (pa_cons pe_int (pa_cons (pe_gi B'.MOST_TICKS) pa_nil)))))) pa_nil))))), ?_⟩
    refine ⟨_, rfl, r_c (r_nil (r_isTup hd ⟨_, rfl, ?_⟩))⟩
    refine (if_neg (by simp [isTup])).mpr ?_
    refine ⟨_, rfl, r_nil (r_lenT hs ⟨_, _, rfl, rfl, _, rfl, (if_pos (by rw [hlen]; simp; omega)).mpr ⟨_, _, rfl, rfl, _, rfl, ?_⟩⟩)⟩
    refine (if_neg (by rw [hlen]; simp; omega)).mpr ?_
    refine .inl (.inr ⟨_, rfl, a, rfl, ⟨_, hs⟩, fun D hD => ?_⟩)
    refine lc_map (walk_tup (xs := intsV ns)) [] (fun _ _ => True) (fun i y _ => ∃ p, ns[i]? = some p ∧ y = .bl (isIn 1 3 (.int (p : Int)))) yk_at
      (by omega) hD (fun _ h => nomatch h) (fun H' g => g.sqT hs) trivial (fun _ _ _ _ _ => trivial) (fun _ _ _ _ _ _ h => h) ?_ ?_
    · rintro i y H2 H3 Fin hi g2 g3 _ ⟨rfl, hx⟩ fin
      have hx' : ∃ p, ns[i]? = some p ∧ y = .int (p : Int) := by
        simp only [intsV, List.getElem?_map] at hx
        cases h : ns[i]? with
        | none => simp [h] at hx
        | some p => exact ⟨p, rfl, by simpa [h] using hx.symm⟩
      obtain ⟨p, hp, rfl⟩ := hx'
      refine ⟨rfl, _, rfl, ?_⟩

      exact ⟨_, .int (p : Int), 1, 3, rfl, .int _, fun H' g => fin _ _ g trivial ⟨p, hp, rfl⟩⟩
    · intro H2 ys g2 _ hD2 hl hr'
      have ey : ys = (ns.map fun (p : Nat) => isIn 1 3 (.int (p : Int))).map V.bl := by
        rw [List.map_map]
        exact list_of (by omega) fun i y e => hr' i y e
      subst ey
      have e1 : ((ns.map fun (p : Nat) => isIn 1 3 (.int (p : Int)))).all id = true := by
        rw [List.all_map]
        refine List.all_eq_true.mpr fun p hp => ?_
        have := b3 p hp
        simp [isIn]
        omega
      refine r_nil (r_all (SqL.of hD2) ?_)
      rw [e1]
      exact q H2 g2
abbrev s_is_set : Stmt := topS 45
abbrev N_is_set : List Str := ["pages", "value", "page"]
abbrev P_is_set : List Str := ["pages", "value"]
theorem sc_is_set : FnScope N_is_set P_is_set (defScope s_is_set) := ⟨rfl, rfl, rfl, by decide +kernel, rfl, by decide +kernel, by decide +kernel⟩
theorem ok_is_set (F : At c "is_set" "is_set" s_is_set P_is_set) (B : Bi c) (D_are_ascending_names : Ok c "are_ascending_names" 2 P_are_ascending_names (spB c szTs ascNames)) : Ok c "is_set" 3 P_is_set (spSet c) := by
  refine Ok.of F sc_is_set (fun vs H Q E h => ?_) (fun f cdv A out s H vs Q E hr h => ?_)
  · obtain ⟨a, b, ps, fs, rfl, _⟩ := h
    rfl
  · obtain ⟨a, b, ps, fs, rfl, ha, hb, hl, hB, q⟩ := h
    have hu1 := hu_of hr
    have hu := hr.units
    have hu5 := hr.u5
    simp only [setB, Bool.and_eq_true, decide_eq_true_eq, List.all_eq_true] at hB
    obtain ⟨b1, b2, b3, b4⟩ := hB
    have e1 : ((ps.map V.str).length) = ps.length := by simp
    have e2 : ((fs.map V.str).length) = fs.length := by simp
    refine ⟨_, (pss_cons (ps_if (PW.pt (pw_or (pt_not (pt_val (pe_f D_are_ascending_names (hr.mono (by decide)) (by rfl) (pa_cons (pv 1) pa_nil)))) (pw_or1 (pt_not (pt_chain op_le op_ltU pe_int (pe_callB (call_lenU (K := c.K)) (by rfl) B.len (by decide +kernel) (pa_cons (pv 1) pa_nil)) (pe_callB (call_lenU (K := c.K)) (by rfl) B.len (by decide +kernel) (pa_cons (pv 0) pa_nil))))))) (pss_one (ps_ret pe_bl)) pss_nil)
    (pss_one (ps_ret (pe_callB (call_allU (K := c.K) rfl) (by rfl) B.all (by decide +kernel) (pa_cons (pe_lc (own := [("page", 2)]) rfl sc_is_set.nd (pi_seq (K := c.K) (pv 1)) (blkOk_by (N := N_is_set) (sc := defScope s_is_set) (by decide +kernel)) (fun _ _ _ _ _ => (pg_name (i := 2) sc_is_set.nd rfl (by first | exact Or.inl rfl | exact Or.inr rfl))) (fun _ _ _ _ _ => pts_nil) (fun _ _ _ _ _ => (pe_cmpR (op_inU (K := c.K) hu5) (pv 2) (pv 0) (by rfl)))) pa_nil))))), ?_⟩
    refine ⟨_, rfl, _, namesD fs, rfl, dp_names hb, names_sz b1 (by omega), fun H1 g1 => ⟨_, rfl, ?_⟩⟩
    rw [ascNames_names b1]
    refine (if_neg (by simp)).mpr ?_
    refine ⟨_, rfl, r_nil (r_lenT (g1.sqT hb) ⟨_, _, rfl, rfl, _, rfl, (if_pos (by rw [e2]; simp; omega)).mpr ⟨_, rfl, r_nil (r_lenT (g1.sqT ha) ?_)⟩⟩)⟩
    refine r_ltI ⟨_, rfl, ?_⟩
    refine (if_neg (by rw [e1, e2]; simp; omega)).mpr ?_
    have ha1 := g1.sqT ha
    have hb1 := g1.sqT hb
    refine .inl (.inr ⟨_, rfl, b, rfl, ⟨_, hb1⟩, fun D hD => ?_⟩)
    refine lc_map (walk_tup (xs := fs.map V.str)) [] (fun _ _ => True) (fun i y _ => ∃ s : Str, fs[i]? = some s ∧ y = .bl true) yk_at
      (by omega) hD (fun _ h => nomatch h) (fun H' g => g.sqT hb1) trivial (fun _ _ _ _ _ => trivial) (fun _ _ _ _ _ _ h => h) ?_ ?_
    · rintro i y H2 H3 Fin hi g2 g3 _ ⟨rfl, hx⟩ fin
      have hx' : ∃ p, fs[i]? = some p ∧ y = .str p := by
        simp only [List.getElem?_map] at hx
        cases h : fs[i]? with
        | none => simp [h] at hx
        | some p => exact ⟨p, rfl, by simpa [h] using hx.symm⟩
      obtain ⟨p, hp, rfl⟩ := hx'
      refine ⟨rfl, _, rfl, _, rfl, r_inT (g2.sqT ha1) rfl (flat_strs _) ?_⟩
      have e : inV (.str p) (ps.map V.str) = true := by
        rw [inV_strs]
        exact decide_eq_true (b4 p (List.mem_of_getElem? hp))
      rw [e]
      exact fin _ _ (Go.refl _ _) trivial ⟨p, hp, rfl⟩
    · intro H2 ys g2 _ hD2 hl2 hr'
      have ey : ys = (fs.map fun _ => true).map V.bl := by
        rw [List.map_map]
        exact list_of (by omega) fun i y e => by obtain ⟨s, h, h'⟩ := hr' i y e; exact ⟨s, h, h'⟩
      subst ey
      refine r_nil (r_all (SqL.of hD2) ?_)
      have e1 : (fs.map fun _ => true).all id = true := by
        rw [List.all_map]
        exact List.all_eq_true.mpr fun _ _ => rfl
      rw [e1]
      exact q H2 (g1.trans g2)
abbrev s_are_pages : Stmt := topS 44
abbrev N_are_pages : List Str := ["steps", "value", "name", "page", "following"]
abbrev P_are_pages : List Str := ["steps", "value"]
theorem sc_are_pages : FnScope N_are_pages P_are_pages (defScope s_are_pages) := ⟨rfl, rfl, rfl, by decide +kernel, rfl, by decide +kernel, by decide +kernel⟩
theorem ok_are_pages (F : At c "are_pages" "are_pages" s_are_pages P_are_pages) (B : Bi c) (B' : Bm c) (D_are_ascending_names : Ok c "are_ascending_names" 2 P_are_ascending_names (spB c szTs ascNames)) : Ok c "are_pages" 3 P_are_pages (spPages c) := by
  refine Ok.of F sc_are_pages (fun vs H Q E h => ?_) (fun f cdv A out s H vs Q E hr h => ?_)
  · obtain ⟨a, b, ps, fs, rfl, _⟩ := h
    rfl
  · obtain ⟨a, b, ss, ps, rfl, ha, hl, hb, hB, q⟩ := h
    have hu1 := hu_of hr
    have hu := hr.units
    have hu5 := hr.u5
    simp only [pagesB, Bool.and_eq_true, decide_eq_true_eq, List.all_eq_true] at hB
    obtain ⟨b1, b2, b3, b4⟩ := hB
    have e2 : ((ps.map V.str).length) = ps.length := by simp
    refine ⟨_, (pss_cons (ps_if (PW.pt (pw_or (pt_not (pt_val (pe_f D_are_ascending_names (hr.mono (by decide)) (by rfl) (pa_cons (pv 1) pa_nil)))) (pw_or1 (pt_not (pt_chain op_le op_le (pe_gi B'.LEAST_PAGES) (pe_callB (call_lenU (K := c.K)) (by rfl) B.len (by decide +kernel) (pa_cons (pv 1) pa_nil)) (pe_gi B'.MOST_PAGES)))))) (pss_one (ps_ret pe_bl)) pss_nil)
    (pss_one (ps_ret (pe_callB (call_allU (K := c.K) rfl) (by rfl) B.all (by decide +kernel) (pa_cons (pe_lc (own := [("name", 2), ("page", 3), ("following", 4)]) rfl sc_are_pages.nd (pi_seq (K := c.K) (pv 0)) (blkOk_by (N := N_are_pages) (sc := defScope s_are_pages) (by decide +kernel)) (fun _ _ _ _ _ => (pg_tupU (K := c.K) (n := 3) rfl (pgs_cons (pg_name (i := 2) sc_are_pages.nd rfl (by first | exact Or.inl rfl | exact Or.inr rfl)) (pgs_cons (pg_name (i := 3) sc_are_pages.nd rfl (by first | exact Or.inl rfl | exact Or.inr rfl)) (pgs_cons (pg_name (i := 4) sc_are_pages.nd rfl (by first | exact Or.inl rfl | exact Or.inr rfl)) pgs_nil))))) (fun _ _ _ _ _ => pts_nil) (fun _ _ _ _ _ => (pe_or (pe_cmpR op_isN (pv 3) pe_non (nomark _)) (pe_one (pe_cmpR (op_inU (K := c.K) hu5) (pv 3) (pv 1) (by rfl)))))) pa_nil))))), ?_⟩
    refine ⟨_, rfl, _, namesD ps, rfl, dp_names hb, names_sz b1 (by omega), fun H1 g1 => ⟨_, rfl, ?_⟩⟩
    rw [ascNames_names b1]
    refine (if_neg (by simp)).mpr ?_
    refine ⟨_, rfl, r_nil (r_lenT (g1.sqT hb) ⟨_, _, rfl, rfl, _, rfl, (if_pos (by rw [e2]; simp; omega)).mpr ⟨_, _, rfl, rfl, _, rfl, ?_⟩⟩)⟩
    refine (if_neg (by rw [e2]; simp; omega)).mpr ?_
    have hA := ha.go g1
    obtain ⟨vs, h1, h2, h3⟩ := hA
    have hb1 := g1.sqT hb
    refine .inl (.inr ⟨_, rfl, a, rfl, ⟨_, h1⟩, fun D hD => ?_⟩)
    refine lc_map (walk_tup (xs := vs)) [] (fun _ _ => True) (fun i y _ => ∃ s : Stp, ss[i]? = some s ∧ y = .bl true) yk_at
      (by omega) hD (fun _ h => nomatch h) (fun H' g => g.sqT h1) trivial (fun _ _ _ _ _ => trivial) (fun _ _ _ _ _ _ h => h) ?_ ?_
    · rintro i y H2 H3 Fin hi g2 g3 _ ⟨rfl, hx⟩ fin
      have hsome : ∃ s, ss[i]? = some s := ⟨_, List.getElem?_eq_getElem (by omega)⟩
      obtain ⟨st, hst⟩ := hsome
      obtain ⟨b', f', e, k1, k2⟩ := (h3 i y st hx hst).go g2
      subst e
      refine ⟨b', _, rfl, k1, rfl, ?_⟩
      refine ⟨_, _, rfl, _, _, rfl, _, _, rfl, rfl, rfl, ?_⟩
      have hp := b4 st (List.mem_of_getElem? hst)
      cases hpg : st.page with
      | none =>
        refine ⟨_, rfl, rfl, _, rfl, (if_pos (by simp [pgV])).mpr ?_⟩
        exact fin _ _ (Go.refl _ _) trivial ⟨st, hst, rfl⟩
      | some pg =>
        rw [hpg] at hp
        refine ⟨_, rfl, rfl, _, rfl, (if_neg (by simp [pgV])).mpr ?_⟩
        refine ⟨_, rfl, _, rfl, r_inT (g2.sqT hb1) rfl (flat_strs _) ?_⟩
        have e : inV (.str pg) (ps.map V.str) = true := by
          rw [inV_strs]
          exact hp
        show Fin (.bl (inV (.str pg) (ps.map V.str))) H3
        rw [e]
        exact fin _ _ (Go.refl _ _) trivial ⟨st, hst, rfl⟩
    · intro H2 ys g2 _ hD2 hl2 hr'
      have ey : ys = (ss.map fun _ => true).map V.bl := by
        rw [List.map_map]
        exact list_of (by omega) fun i y e => by obtain ⟨s, h, h'⟩ := hr' i y e; exact ⟨s, h, h'⟩
      subst ey
      refine r_nil (r_all (SqL.of hD2) ?_)
      have e1 : (ss.map fun _ => true).all id = true := by
        rw [List.all_map]
        exact List.all_eq_true.mpr fun _ _ => rfl
      rw [e1]
      exact q H2 (g1.trans g2)
end
end Sd

namespace Sd
open PySem PySem.Spec PyProof.Rows L2 RZ RT
/-- right steps: few, each a step, names unlike, followers named -/
def stepsB (ss : List Stp) : Bool := decide (1 ≤ ss.length) && (decide (ss.length ≤ 8) && (ss.all stpB && (decide ((ss.map Stp.name).Nodup) && ss.all fun s => s.fol.all fun n => decide (n ∈ ss.map Stp.name))))
def spSteps (c : Wd) : Sp := fun vs H Q _ => ∃ a ss, vs = [.ref a] ∧ AreStps c.K H a ss ∧ stepsB ss = true ∧ ∀ H', Go [] H H' → Q (.bl true) H'
def stpD (s : Stp) : PyData := .tuple [.str s.name, pgD s.page, namesD s.fol]
theorem dpA_steps {K : PySem.W.Frag} {H : Hp} : ∀ (vs : List V) (ss : List Stp), vs.length = ss.length → (∀ (i : Nat) (v : V) (s : Stp), vs[i]? = some v → ss[i]? = some s → IsStp K H s v) → DpAll K H vs (ss.map stpD)
  | [], [], _, _ => .nil
  | v :: vs, s :: ss, h, k => .cons (IsStp.dp (k 0 v s rfl rfl)) (dpA_steps vs ss (by simpa using h) fun i v' s' e1 e2 => k (i + 1) v' s' e1 e2)
  | [], _ :: _, h, _ => by simp at h
  | _ :: _, [], h, _ => by simp at h
theorem AreStps.dp {K : PySem.W.Frag} {H : Hp} {a : Addr} {ss : List Stp} (h : AreStps K H a ss) : Dp K H (.ref a) (.tuple (ss.map stpD)) := by
  obtain ⟨vs, h1, h2, h3⟩ := h
  exact .tup h1 (dpA_steps vs ss h2 h3)
section
variable {c : Wd}
abbrev s_are_steps : Stmt := topS 42
abbrev N_are_steps : List Str := ["value", "names", "step", "name"]
abbrev P_are_steps : List Str := ["value"]
theorem sc_are_steps : FnScope N_are_steps P_are_steps (defScope s_are_steps) := ⟨rfl, rfl, rfl, by decide +kernel, rfl, by decide +kernel, by decide +kernel⟩
theorem ok_are_steps (F : At c "are_steps" "are_steps" s_are_steps P_are_steps) (B : Bi c) (B' : Bm c) (D_is_step : Ok c "is_step" 3 P_is_step (spStp c)) : Ok c "are_steps" 4 P_are_steps (spSteps c) := by
  refine Ok.of F sc_are_steps (fun vs H Q E h => ?_) (fun f cdv A out s H vs Q E hr h => ?_)
  · obtain ⟨a, ss, rfl, _⟩ := h
    rfl
  · obtain ⟨a, ss, rfl, ha, hB, q⟩ := h
    have hu1 := hu_of hr
    have hu := hr.units
    have hu5 := hr.u5
    simp only [stepsB, Bool.and_eq_true, decide_eq_true_eq, List.all_eq_true] at hB
    obtain ⟨b1, b2, b3, b4, b5⟩ := hB
    obtain ⟨vs, h1, h2, h3⟩ := id ha
    refine ⟨_, (pss_cons (ps_if (PW.pt (pw_or (pt_not (pt_val (pe_callB (call_isiU (K := c.K)) (by rfl) B.isinstance (by decide +kernel) (pa_cons (pv 0) (pa_cons (pe_ty "tuple" "tuple" (by rfl) B.tuple (by decide +kernel)) pa_nil))))) (pw_or1 (pt_not (pt_chain op_le op_le pe_int (pe_callB (call_lenU (K := c.K)) (by rfl) B.len (by decide +kernel) (pa_cons (pv 0) pa_nil)) (pe_gi B'.MOST_STEPS)))))) (pss_one (ps_ret pe_bl)) pss_nil)
    (pss_cons (ps_if (pt_not (pt_val (pe_callB (call_allU (K := c.K) rfl) (by rfl) B.all (by decide +kernel) (pa_cons (pe_lc (own := [("step", 2)]) rfl sc_are_steps.nd (pi_seq (K := c.K) (pv 0)) (blkOk_by (N := N_are_steps) (sc := defScope s_are_steps) (by decide +kernel)) (fun _ _ _ _ _ => (pg_name (i := 2) sc_are_steps.nd rfl (by first | exact Or.inl rfl | exact Or.inr rfl))) (fun _ _ _ _ _ => pts_nil) (fun _ _ _ _ _ => (pe_f D_is_step (hr.mono (by decide)) (by rfl) (pa_cons (pv 2) pa_nil)))) pa_nil)))) (pss_one (ps_ret pe_bl)) pss_nil)
    (pss_cons (ps_set (i := 1) sc_are_steps.nd rfl (by first | exact Or.inl rfl | exact Or.inr rfl) (pe_lc (own := [("step", 2)]) rfl sc_are_steps.nd (pi_seq (K := c.K) (pv 0)) (blkOk_by (N := N_are_steps) (sc := defScope s_are_steps) (by decide +kernel)) (fun _ _ _ _ _ => (pg_name (i := 2) sc_are_steps.nd rfl (by first | exact Or.inl rfl | exact Or.inr rfl))) (fun _ _ _ _ _ => pts_nil) (fun _ _ _ _ _ => (pe_ixU (K := c.K) hu1 (pv 2) pe_int (fun _ _ => rfl) (fun _ _ => rfl)))))
    (pss_cons (ps_if (pt_cmpR op_ltU (pe_lenSetT (by rfl) (by rfl) B.len (by rfl) B.set (pv 1)) (pe_callB (call_lenU (K := c.K)) (by rfl) B.len (by decide +kernel) (pa_cons (pv 1) pa_nil)) (nomark _)) (pss_one (ps_ret pe_bl)) pss_nil)
    (pss_one (ps_ret (pe_callB (call_allU (K := c.K) rfl) (by rfl) B.all (by decide +kernel) (pa_cons (pe_lc2 (own := [("step", 2), ("name", 3)]) (vs1 := [3]) rfl sc_are_steps.nd (pi_seq (K := c.K) (pv 0)) (blkOk_by (N := N_are_steps) (sc := defScope s_are_steps) (by decide +kernel)) (by decide) (fun _ _ _ _ _ => (pg_name (i := 2) sc_are_steps.nd rfl (by first | exact Or.inl rfl | exact Or.inr rfl))) (fun _ _ _ _ _ => pts_nil) (fun _ _ _ _ _ => (pi_seq (K := c.K) (pe_ixU (K := c.K) hu1 (pv 2) pe_int (fun _ _ => rfl) (fun _ _ => rfl)))) (fun _ _ _ _ _ => (pg_name (i := 3) sc_are_steps.nd rfl (by first | exact Or.inl rfl | exact Or.inr rfl))) (fun _ _ _ _ _ => pts_nil) (fun _ _ _ _ _ => (pe_cmpR (op_inU (K := c.K) hu5) (pv 3) (pv 1) (by rfl)))) pa_nil)))))))), ?_⟩
    refine ⟨_, rfl, r_c (r_nil (r_isTup ha.dp ⟨_, rfl, ?_⟩))⟩
    refine (if_neg (by simp [isTup])).mpr ?_
    refine ⟨_, rfl, r_nil (r_lenT h1 ⟨_, _, rfl, rfl, _, rfl, (if_pos (by rw [h2]; simp; omega)).mpr ⟨_, _, rfl, rfl, _, rfl, ?_⟩⟩)⟩
    refine (if_neg (by rw [h2]; simp; omega)).mpr ?_
    refine .inl (.inr ⟨_, rfl, a, rfl, ⟨_, h1⟩, fun D hD => ?_⟩)
    refine lc_map (walk_tup (xs := vs)) [] (fun _ _ => True) (fun i y _ => ∃ s : Stp, ss[i]? = some s ∧ y = .bl true) yk_at
      (by omega) hD (fun _ h => nomatch h) (fun H' g => g.sqT h1) trivial (fun _ _ _ _ _ => trivial) (fun _ _ _ _ _ _ h => h) ?_ ?_
    · rintro i y H2 H3 Fin hi g2 g3 _ ⟨rfl, hx⟩ fin
      have hsome : ∃ s, ss[i]? = some s := ⟨_, List.getElem?_eq_getElem (by omega)⟩
      obtain ⟨st, hst⟩ := hsome
      refine ⟨rfl, _, rfl, ?_⟩
      exact ⟨y, st, rfl, (h3 i y st hx hst).go g2, b3 st (List.mem_of_getElem? hst), fun H' g => fin _ _ g trivial ⟨st, hst, rfl⟩⟩
    intro H2 ys g2 _ hD2 hl2 hr'
    have ey : ys = (ss.map fun _ => true).map V.bl := by
      rw [List.map_map]
      exact list_of (by omega) fun i y e => by obtain ⟨s, h, h'⟩ := hr' i y e; exact ⟨s, h, h'⟩
    subst ey
    refine r_nil (r_all (SqL.of hD2) ?_)
    have e1 : (ss.map fun _ => true).all id = true := by
      rw [List.all_map]
      exact List.all_eq_true.mpr fun _ _ => rfl
    rw [e1]
    refine ⟨_, rfl, (if_neg (by simp)).mpr ?_⟩
    clear hr' hl2 e1 hD2 hD
    have h1' := g2.sqT h1
    refine .inl (.inr ⟨_, rfl, a, rfl, ⟨_, h1'⟩, fun D hD => ?_⟩)
    refine lc_map (walk_tup (xs := vs)) [] (fun _ _ => True) (fun i y _ => ∃ s : Stp, ss[i]? = some s ∧ y = .str s.name) yk_at
      (by omega) hD (fun _ h => nomatch h) (fun H' g => g.sqT h1') trivial (fun _ _ _ _ _ => trivial) (fun _ _ _ _ _ _ h => h) ?_ ?_
    · rintro i y H3 H4 Fin hi g3 g4 _ ⟨rfl, hx⟩ fin
      have hsome : ∃ s, ss[i]? = some s := ⟨_, List.getElem?_eq_getElem (by omega)⟩
      obtain ⟨st, hst⟩ := hsome
      obtain ⟨b', f', e, k1, k2⟩ := (h3 i y st hx hst).go (g2.trans g3)
      subst e
      refine ⟨rfl, ?_⟩
      exact .inl ⟨_, rfl, ixT (i := 0) k1 rfl (fin _ _ (Go.refl _ _) trivial ⟨st, hst, rfl⟩)⟩
    intro H3 ys g3 _ hD3 hl3 hr3
    have ey : ys = (ss.map Stp.name).map V.str := by
      rw [List.map_map]
      exact list_of (by omega) fun i y e => by obtain ⟨s, h, h'⟩ := hr3 i y e; exact ⟨s, h, h'⟩
    subst ey
    refine ⟨_, rfl, D, ss.map Stp.name, rfl, SqL.of hD3, by simp; omega, ?_⟩
    refine ⟨_, rfl, r_nil (r_lenL (SqL.of hD3) ?_)⟩
    refine r_ltI ⟨_, rfl, ?_⟩
    rw [unlike_nodup b4 _ (Nat.le_refl _)]
    refine (if_neg (by simp)).mpr ?_
    have gA := g2.trans g3
    have h1'' := gA.sqT h1
    refine .inl (.inr ⟨_, rfl, a, rfl, ⟨_, h1''⟩, fun D2 hD2 => ?_⟩)
    refine lc2_map (walk_tup (xs := vs)) (fun i j ys _ => (∀ y ∈ ys, y = V.bl true) ∧ i ≤ ss.length ∧ (j ≤ 3 ∧ ys.length ≤ i * 3 + j)) yk_at hD2 (fun H' g => g.sqT h1'') ?_ ?_ ?_ ?_ ?_
    · exact ⟨(fun _ h => nomatch h), by omega, by omega, by simp⟩
    · exact fun _ _ _ _ _ _ _ h => h
    · rintro i j ys H' ⟨_, h, h', h''⟩
      omega
    · rintro i y H4 H5 ys Fin hi g4 ⟨hy1, hy2, _, hy3⟩ ⟨rfl, hx⟩ _ dD fin
      have hsome : ∃ s, ss[i]? = some s := ⟨_, List.getElem?_eq_getElem (by omega)⟩
      obtain ⟨st, hst⟩ := hsome
      obtain ⟨b', f', e, k1, k2⟩ := (h3 i y st hx hst).go (gA.trans g4)
      subst e
      refine ⟨rfl, ?_⟩
      refine .inl (.inr (.inl ⟨_, rfl, ixT (i := 2) k1 rfl ⟨f', rfl, ⟨_, k2⟩, fin _ _ _ ?_⟩⟩))
      have hst3 := b3 st (List.mem_of_getElem? hst)
      simp only [stpB, Bool.and_eq_true, decide_eq_true_eq] at hst3
      obtain ⟨_, _, _, hf3⟩ := hst3
      refine ⟨_, _, _, walk_tup (xs := st.fol.map V.str), yk_at, g4, dD, ⟨hy1, hy2, by omega, hy3⟩, fun H6 g => g.sqT k2, ?_, ?_⟩
      · rintro zs H6 ⟨p1, p2, p3, p4⟩
        have e : (st.fol.map V.str).length = st.fol.length := by simp
        rw [e] at p3 p4
        exact ⟨p1, by omega, by omega, by omega⟩
      · rintro j z H6 H7 zs Fin2 hj g6 g46 ⟨p1, p2, p3, p4⟩ ⟨rfl, hz⟩ fin2
        have hz' : ∃ p, st.fol[j]? = some p ∧ z = .str p := by
          simp only [List.getElem?_map] at hz
          cases h : st.fol[j]? with
          | none => simp [h] at hz
          | some p => exact ⟨p, rfl, by simpa [h] using hz.symm⟩
        obtain ⟨p, hp, rfl⟩ := hz'
        simp at hj
        refine ⟨rfl, _, rfl, _, rfl, r_inL (g6.sqL (SqL.of hD3)) rfl (flat_strs _) ?_⟩
        have e : inV (.str p) ((ss.map Stp.name).map V.str) = true := by
          rw [inV_strs]
          exact decide_eq_true (b5 st (List.mem_of_getElem? hst) p (List.mem_of_getElem? hp))
        rw [e]
        refine fin2 _ _ (Go.refl _ _) ⟨?_, hy2, by omega, by simp; omega⟩
        intro y hy
        rcases List.mem_append.mp hy with h | h
        · exact p1 y h
        · simpa using h
    · rintro H4 ys g4 ⟨p1, _⟩ hD4
      have ey : ys = (ys.map fun _ => true).map V.bl := by
        rw [List.map_map]
        have : ∀ zs : List V, (∀ y ∈ zs, y = V.bl true) → zs = zs.map (V.bl ∘ fun _ => true) := by
          intro zs
          induction zs with
          | nil => intro _; rfl
          | cons z zs ih =>
            intro h
            rw [List.map_cons, ← ih fun y hy => h y (List.mem_cons_of_mem _ hy), h z List.mem_cons_self]
            rfl
        exact this ys p1
      rw [ey] at hD4
      refine r_nil (r_all (SqL.of hD4) ?_)
      have e1 : (ys.map fun _ => true).all id = true := by
        rw [List.all_map]
        exact List.all_eq_true.mpr fun _ _ => rfl
      rw [e1]
      exact q H4 (gA.trans g4)
end
end Sd

namespace Sd
open PySem PySem.Spec PyProof.Rows L2 RZ RT
/-- all but o is kept -/
def Keep (o : Addr) (H H' : Hp) : Prop := ∀ b u, b ≠ o → H b = some u → H' b = some u
/-- tuples are kept -/
def Tk (K : PySem.W.Frag) (H H' : Hp) : Prop := ∀ a xs, SqT K H a xs → SqT K H' a xs
theorem Tk.trans {K : PySem.W.Frag} {H H1 H2 : Hp} (a : Tk K H H1) (b : Tk K H1 H2) : Tk K H H2 := fun x xs h => b x xs (a x xs h)
theorem Go.tk {K : PySem.W.Frag} {M : List Addr} {H H' : Hp} (g : Go M H H') : Tk K H H' := fun _ _ h => g.sqT h
theorem Keep.tk {K : PySem.W.Frag} {o C dx : Addr} {fs : List (Str × V)} {H H' : Hp} (k : Keep o H H') (ho : H o = some (.ins C dx fs)) : Tk K H H' := fun a xs h => by
  rcases h with (h | ⟨u, h⟩) | h
  · exact .inl (.inl (k a _ (fun z => by rw [z, ho] at h; cases h) h))
  · exact .inl (.inr ⟨u, k a _ (fun z => by rw [z, ho] at h; cases h) h⟩)
  · exact .inr h
theorem Keep.upd {o : Addr} {H : Hp} {u : HO} : Keep o H (upd H o u) := fun b v hb e => by rw [upd_ne hb]; exact e
theorem Keep.trans {o : Addr} {H H1 H2 : Hp} (a : Keep o H H1) (b : Keep o H1 H2) : Keep o H H2 := fun c u hc e => b c u hc (a c u hc e)
theorem Go.keep {o : Addr} {H H' : Hp} (g : Go [] H H') : Keep o H H' := fun b u _ e => g.old b u (fun z => nomatch z) e
theorem AreStps.tk {K : PySem.W.Frag} {H H' : Hp} {a : Addr} {ss : List Stp} (h : AreStps K H a ss) (t : Tk K H H') : AreStps K H' a ss := by
  obtain ⟨vs, h1, h2, h3⟩ := h
  refine ⟨vs, t _ _ h1, h2, fun i v s e1 e2 => ?_⟩
  obtain ⟨b, f, e, k1, k2⟩ := h3 i v s e1 e2
  exact ⟨b, f, e, t _ _ k1, t _ _ k2⟩
/-- a right machine's parts -/
structure Mac where
  steps : List Stp
  clock : List Nat
  pages : List Str
  move : Nat
  first : List Str
def macB (m : Mac) : Bool := stepsB m.steps && (clockB m.clock && (pagesB m.steps m.pages && (decide (m.move ≤ 9) && setB m.pages m.first)))
/-- the numbers of the pages of all sets -/
def macCs (m : Mac) (cs : List (List Nat)) : Prop := cs[0]? = some (List.range m.first.length) ∧ Cmb.Chain m.pages.length cs ∧ ∀ ix ∈ cs, ∀ i ∈ ix, i < m.pages.length
def mNames : List Str := ["_steps", "_clock", "_pages", "_move", "_first", "_names", "_sets", "_page_of", "_following_of"]
/-- a machine stands at o -/
structure MacAt (K : PySem.W.Frag) (C : Addr) (H : Hp) (o : Addr) (m : Mac) (cs : List (List Nat)) : Prop where
  ex : ∃ (dx : Addr) (fs : List (Str × V)) (a1 a2 a3 a5 a6 a7 d1 d2 : Addr) (ts : List Addr) (kv1 kv2 : List (Key × V)),
    H o = some (.ins C dx fs) ∧ fs.lookup ("_steps" : Str) = some (.ref a1) ∧ AreStps K H a1 m.steps ∧ fs.lookup ("_clock" : Str) = some (.ref a2) ∧ SqT K H a2 (intsV m.clock) ∧ fs.lookup ("_pages" : Str) = some (.ref a3) ∧ SqT K H a3 (m.pages.map V.str) ∧
    fs.lookup ("_move" : Str) = some (.int (m.move : Int)) ∧ fs.lookup ("_first" : Str) = some (.ref a5) ∧ SqT K H a5 (m.first.map V.str) ∧ fs.lookup ("_names" : Str) = some (.ref a6) ∧ SqT K H a6 ((m.steps.map Stp.name).map V.str) ∧
    fs.lookup ("_sets" : Str) = some (.ref a7) ∧ SqT K H a7 (ts.map V.ref) ∧ ts.length = cs.length ∧ (∀ (j : Nat) (t : Addr) (ix : List Nat), ts[j]? = some t → cs[j]? = some ix → SqT K H t (ix.map fun i => (m.pages.map V.str).getD i .non)) ∧
    fs.lookup ("_page_of" : Str) = some (.ref d1) ∧ H d1 = some (.dK kv1) ∧ kv1 = m.steps.map (fun s => (.inr s.name, pgV s.page)) ∧
    fs.lookup ("_following_of" : Str) = some (.ref d2) ∧ H d2 = some (.dK kv2) ∧ kv2.length = m.steps.length ∧ (∀ (i : Nat) (s : Stp) (p : Key × V), m.steps[i]? = some s → kv2[i]? = some p → ∃ f, p = (.inr s.name, .ref f) ∧ SqT K H f (s.fol.map V.str)) ∧ ∀ f : Str, f ∉ mNames → fs.lookup f = none
def spMac (c : Wd) (C : Addr) : Sp := fun vs H Q _ => ∃ (o a1 a2 a3 a5 dx : Addr) (m : Mac) (cs : List (List Nat)), vs = [.ref o, .ref a1, .ref a2, .ref a3, .int (m.move : Int), .ref a5] ∧ H o = some (.ins C dx []) ∧ AreStps c.K H a1 m.steps ∧ SqT c.K H a2 (intsV m.clock) ∧ SqT c.K H a3 (m.pages.map V.str) ∧
  SqT c.K H a5 (m.first.map V.str) ∧ macB m = true ∧ macCs m cs ∧ ∀ H', Keep o H H' → MacAt c.K C H' o m cs → Q .non H'
/-- a class as the top left it -/
structure ClAt (c : Wd) (x qual : Str) (C : Addr) (st : Stmt) (ps : List Str) : Prop where
  ex : ∃ (f : Addr) (fd : FuncData), Mk c.K C f ∧ c.mg x = some (.ref C) ∧ Fun c.K "__init__" qual st f fd ∧ Binds c.K fd ps []
  cls : Cls c.K C
theorem mak_of {c : Wd} {x qual : Str} {C : Addr} {st : Stmt} {N ps : List Str} {k : Nat} {sp : Sp} (F : ClAt c x qual C st ps) (S : FnScope N ps (defScope st))
    (len : ∀ vs H Q E, sp vs H Q E → vs.length = ps.length)
    (h : ∀ (f : Addr) (cdv : Value) (A : Around) (out : List Env) (s : Shared) (H : Hp) (vs : List V) (Q : VK) (E : XK), Room k (A.deeper (envOfC qual (defScope st) s.heap.objs.size f cdv)) → sp vs H Q E →
      ∃ t, PSs (cxN c N qual st f cdv A out s H E).nox (defBody st) t ∧ t { nx := fun _ H' => Q .non H', rt := Q } (L2.start N vs) H) : MkO c x C (k + 1) ps sp := by
  obtain ⟨f, fd, h1, h2, h3, h4⟩ := F.ex
  refine ⟨f, fd, h1, h2, h4, h3.okX S len fun cdv A out s H vs Q E hr q => ?_⟩
  obtain ⟨t, a, b⟩ := h f cdv A out s H vs Q E hr q
  exact ⟨t, a.nox, b⟩
theorem putF_s {f : Str} {v : V} {k : Nat} : ∀ {fs : List (Str × V)}, fs.length ≤ k → (putF f v fs).length ≤ k + 1
  | [], _ => by simp [putF]
  | (g, x) :: r, h => by
    unfold putF
    by_cases e : g = f
    · rw [if_pos e]
      simp at h ⊢
      omega
    · rw [if_neg e]
      cases k with
      | zero => simp at h
      | succ k =>
        have := putF_s (f := f) (v := v) (k := k) (fs := r) (by simpa using h)
        simp
        omega
theorem valV_free {kvs : List (Key × V)} {k : Key} (h : ∀ p ∈ kvs, p.1 ≠ k) : valV kvs k = none := by
  induction kvs with
  | nil => rfl
  | cons p r ih => rw [valV_neg (h p List.mem_cons_self), ih fun q hq => h q (List.mem_cons_of_mem _ hq)]
theorem nodup_ne {ss : List Stp} (h : (ss.map Stp.name).Nodup) {i j : Nat} {s t : Stp} (hi : ss[i]? = some s) (hj : ss[j]? = some t) (hij : i ≠ j) : s.name ≠ t.name := fun e => by
  obtain ⟨hi', ei⟩ := List.getElem?_eq_some_iff.mp hi
  obtain ⟨hj', ej⟩ := List.getElem?_eq_some_iff.mp hj
  have e1 : (ss.map Stp.name)[i]'(by simpa using hi') = (ss.map Stp.name)[j]'(by simpa using hj') := by simp [ei, ej, e]
  exact hij ((List.getElem_inj h).mp e1)
section
variable {c : Wd} {C : Addr}
abbrev s_Machine___init__ : Stmt := inClass (topS 46) 0
abbrev N_Machine___init__ : List Str := ["self", "steps", "clock", "pages", "move", "first", "name", "page", "following"]
abbrev P_Machine___init__ : List Str := ["self", "steps", "clock", "pages", "move", "first"]
theorem sc_Machine___init__ : FnScope N_Machine___init__ P_Machine___init__ (defScope s_Machine___init__) := ⟨rfl, rfl, rfl, by decide +kernel, rfl, by decide +kernel, by decide +kernel⟩
theorem ok_Machine_init (F : ClAt c "Machine" "Machine.__init__" C s_Machine___init__ P_Machine___init__) (B : Bi c) (B' : Bm c) (D_are_steps : Ok c "are_steps" 4 P_are_steps (spSteps c)) (D_is_clock : Ok c "is_clock" 3 P_is_clock (spClock c))
    (D_are_pages : Ok c "are_pages" 3 P_are_pages (spPages c)) (D_is_integer_in : Ok c "is_integer_in" 2 P_is_integer_in (spIn c)) (D_is_set : Ok c "is_set" 3 P_is_set (spSet c))
    (nA : ∀ f : Str, f ∈ (["_steps", "_clock", "_pages", "_move", "_first", "_names", "_sets", "_page_of", "_following_of"] : List Str) → NoAttr c.K C f) : MkO c "Machine" C 5 P_Machine___init__ (spMac c C) := by
  refine mak_of F sc_Machine___init__ (fun vs H Q E h => ?_) (fun f cdv A out s H vs Q E hr h => ?_)
  · obtain ⟨o, a1, a2, a3, a5, dx, m, cs, rfl, _⟩ := h
    rfl
  · obtain ⟨o, a1, a2, a3, a5, dx, m, cs, rfl, ho, h1, h2, h3, h5, hB, hC, q⟩ := h
    have hu1 := hu_of hr
    have hu := hr.units
    simp only [macB, Bool.and_eq_true, decide_eq_true_eq] at hB
    obtain ⟨b1, b2, b3, b4, b5⟩ := hB
    refine ⟨_, (pss_cons (ps_if (pt_not (pt_val (pe_f D_are_steps (hr.mono (by decide)) (by rfl) (pa_cons (pv 1) pa_nil)))) (pss_one ps_never) pss_nil)
    (pss_cons (ps_if (pt_not (pt_val (pe_f D_is_clock (hr.mono (by decide)) (by rfl) (pa_cons (pv 2) pa_nil)))) (pss_one ps_never) pss_nil)
    (pss_cons (ps_if (pt_not (pt_val (pe_f D_are_pages (hr.mono (by decide)) (by rfl) (pa_cons (pv 1) (pa_cons (pv 3) pa_nil))))) (pss_one ps_never) pss_nil)
    (pss_cons (ps_if (pt_not (pt_val (pe_f D_is_integer_in (hr.mono (by decide)) (by rfl) (pa_cons (pv 4) (pa_cons pe_int (pa_cons (pe_gi B'.MOST_MOVE) pa_nil)))))) (pss_one ps_never) pss_nil)
    (pss_cons (ps_if (pt_not (pt_val (pe_f D_is_set (hr.mono (by decide)) (by rfl) (pa_cons (pv 3) (pa_cons (pv 5) pa_nil))))) (pss_one ps_never) pss_nil)
    (pss_cons (ps_fld (pv 0) (pv 1) rfl)
    (pss_cons (ps_fld (pv 0) (pv 2) rfl)
    (pss_cons (ps_fld (pv 0) (pv 3) rfl)
    (pss_cons (ps_fld (pv 0) (pv 4) rfl)
    (pss_cons (ps_fld (pv 0) (pv 5) rfl)
    (pss_cons (ps_fld (pv 0) (pe_callTy (call_tupU (K := c.K)) (by rfl) B.tuple (by decide +kernel) (pa_cons (pe_lc (own := [("name", 6), ("page", 7), ("following", 8)]) rfl sc_Machine___init__.nd (pi_seq (K := c.K) (pv 1)) (blkOk_by (N := N_Machine___init__) (sc := defScope s_Machine___init__) (by decide +kernel)) (fun _ _ _ _ _ => (pg_tupU (K := c.K) (n := 3) rfl (pgs_cons (pg_name (i := 6) sc_Machine___init__.nd rfl (by first | exact Or.inl rfl | exact Or.inr rfl)) (pgs_cons (pg_name (i := 7) sc_Machine___init__.nd rfl (by first | exact Or.inl rfl | exact Or.inr rfl)) (pgs_cons (pg_name (i := 8) sc_Machine___init__.nd rfl (by first | exact Or.inl rfl | exact Or.inr rfl)) pgs_nil))))) (fun _ _ _ _ _ => pts_nil) (fun _ _ _ _ _ => (pv 6))) pa_nil)) rfl)
    (pss_cons (ps_fld (pv 0) (Cmb.pe_tupComb rfl (by rfl) B.tuple (by rfl) B'.combinations (pa_cons (pe_callTy (call_lstU (K := c.K)) (by rfl) B.list (by decide +kernel) (pa_cons (pv 3) pa_nil)) (pa_cons (pe_callB (call_lenU (K := c.K)) (by rfl) B.len (by decide +kernel) (pa_cons (pv 5) pa_nil)) pa_nil))) rfl)
    (pss_cons (ps_fld (pv 0) (pe_dc (own := [("name", 6), ("page", 7), ("following", 8)]) rfl sc_Machine___init__.nd (pi_seq (K := c.K) (pv 1)) (blkOk_by (N := N_Machine___init__) (sc := defScope s_Machine___init__) (by decide +kernel)) (fun _ _ _ _ _ => (pg_tupU (K := c.K) (n := 3) rfl (pgs_cons (pg_name (i := 6) sc_Machine___init__.nd rfl (by first | exact Or.inl rfl | exact Or.inr rfl)) (pgs_cons (pg_name (i := 7) sc_Machine___init__.nd rfl (by first | exact Or.inl rfl | exact Or.inr rfl)) (pgs_cons (pg_name (i := 8) sc_Machine___init__.nd rfl (by first | exact Or.inl rfl | exact Or.inr rfl)) pgs_nil))))) (fun _ _ _ _ _ => pts_nil) (fun _ _ _ _ _ => (pv 6)) (fun _ _ _ _ _ => (pv 7))) rfl)
    (pss_one (ps_fld (pv 0) (pe_dc (own := [("name", 6), ("page", 7), ("following", 8)]) rfl sc_Machine___init__.nd (pi_seq (K := c.K) (pv 1)) (blkOk_by (N := N_Machine___init__) (sc := defScope s_Machine___init__) (by decide +kernel)) (fun _ _ _ _ _ => (pg_tupU (K := c.K) (n := 3) rfl (pgs_cons (pg_name (i := 6) sc_Machine___init__.nd rfl (by first | exact Or.inl rfl | exact Or.inr rfl)) (pgs_cons (pg_name (i := 7) sc_Machine___init__.nd rfl (by first | exact Or.inl rfl | exact Or.inr rfl)) (pgs_cons (pg_name (i := 8) sc_Machine___init__.nd rfl (by first | exact Or.inl rfl | exact Or.inr rfl)) pgs_nil))))) (fun _ _ _ _ _ => pts_nil) (fun _ _ _ _ _ => (pv 6)) (fun _ _ _ _ _ => (pv 8))) rfl))))))))))))))), ?_⟩
    have sl : m.steps.length ≤ 1000 := by
      simp only [stepsB, Bool.and_eq_true, decide_eq_true_eq] at b1
      omega
    have pl : m.pages.length ≤ 1000 := by
      simp only [pagesB, Bool.and_eq_true, decide_eq_true_eq] at b3
      omega
    refine ⟨_, rfl, a1, m.steps, rfl, h1, b1, fun H1 g1 => ⟨_, rfl, (if_neg (by simp)).mpr ?_⟩⟩
    refine ⟨_, rfl, a2, m.clock, rfl, g1.sqT h2, b2, fun H2 g2 => ⟨_, rfl, (if_neg (by simp)).mpr ?_⟩⟩
    have g2 := g1.trans g2
    refine ⟨_, rfl, _, rfl, a1, a3, m.steps, m.pages, rfl, h1.go g2, sl, g2.sqT h3, b3, fun H3 g3 => ⟨_, rfl, (if_neg (by simp)).mpr ?_⟩⟩
    have g3 := g2.trans g3
    refine ⟨_, rfl, _, .int (m.move : Int), 0, 9, rfl, .int _, fun H4 g4 => ⟨_, rfl, (if_neg (by simp [isIn]; omega)).mpr ?_⟩⟩
    have g4 := g3.trans g4
    refine ⟨_, rfl, _, rfl, a3, a5, m.pages, m.first, rfl, g4.sqT h3, g4.sqT h5, pl, b5, fun H5 g5 => ⟨_, rfl, (if_neg (by simp)).mpr ?_⟩⟩
    have g5 := g4.trans g5
    have o5 : H5 o = some (.ins C dx []) := g5.old o _ (fun z => nomatch z) ho
    clear g1 g2 g3 g4
    refine ⟨_, rfl, _, rfl, o, C, dx, _, rfl, o5, F.cls, nA _ (by decide), by simp, ?_⟩
    refine ⟨_, rfl, _, rfl, o, C, dx, _, rfl, upd_same, F.cls, nA _ (by decide), Nat.lt_of_le_of_lt (putF_s (Nat.le_refl _)) (by decide), ?_⟩
    refine ⟨_, rfl, _, rfl, o, C, dx, _, rfl, upd_same, F.cls, nA _ (by decide), Nat.lt_of_le_of_lt (putF_s (putF_s (Nat.le_refl _))) (by decide), ?_⟩
    refine ⟨_, rfl, _, rfl, o, C, dx, _, rfl, upd_same, F.cls, nA _ (by decide), Nat.lt_of_le_of_lt (putF_s (putF_s (putF_s (Nat.le_refl _)))) (by decide), ?_⟩
    refine ⟨_, rfl, _, rfl, o, C, dx, _, rfl, upd_same, F.cls, nA _ (by decide), Nat.lt_of_le_of_lt (putF_s (putF_s (putF_s (putF_s (Nat.le_refl _))))) (by decide), ?_⟩
    rw [upd_upd, upd_upd, upd_upd, upd_upd]
    generalize hfs : putF "_first" (.ref a5) (putF "_move" (.int (m.move : Int)) (putF "_pages" (.ref a3) (putF "_clock" (.ref a2) (putF "_steps" (.ref a1) [])))) = fs5
    have f5 : fs5.length ≤ 5 := by rw [← hfs]; exact putF_s (putF_s (putF_s (putF_s (putF_s (Nat.le_refl _)))))
    have k6 : Keep o H (upd H5 o (.ins C dx fs5)) := (Go.keep g5).trans Keep.upd
    have t6 : Tk c.K H (upd H5 o (.ins C dx fs5)) := k6.tk ho
    generalize hH6 : upd H5 o (.ins C dx fs5) = H6 at k6 t6
    have o6 : H6 o = some (.ins C dx fs5) := by rw [← hH6]; exact upd_same
    clear hH6
    obtain ⟨ws, s1, s2, s3⟩ := h1.tk t6
    refine .inl (.inr ⟨_, rfl, a1, rfl, ⟨_, s1⟩, fun D hD => ?_⟩)
    refine lc_map (walk_tup (xs := ws)) [] (fun _ _ => True) (fun i y _ => ∃ s : Stp, m.steps[i]? = some s ∧ y = .str s.name) yk_at
      (by omega) hD (fun _ h => nomatch h) (fun H' g => g.sqT s1) trivial (fun _ _ _ _ _ => trivial) (fun _ _ _ _ _ _ h => h) ?_ ?_
    · rintro i y H7 H8 Fin hi g7 g8 _ ⟨rfl, hx⟩ fin
      obtain ⟨st, hst⟩ : ∃ s, m.steps[i]? = some s := ⟨_, List.getElem?_eq_getElem (by omega)⟩
      obtain ⟨b', f', e, k1, k2⟩ := (s3 i y st hx hst).go g7
      subst e
      refine ⟨b', _, rfl, k1, rfl, _, _, rfl, _, _, rfl, _, _, rfl, rfl, rfl, ?_⟩
      exact ⟨_, rfl, fin _ _ (Go.refl _ _) trivial ⟨st, hst, rfl⟩⟩
    intro H7 ys g7 _ hD7 hl7 hr7
    have ey : ys = (m.steps.map Stp.name).map V.str := by
      rw [List.map_map]
      exact list_of (by omega) fun i y e => by obtain ⟨s, h, h'⟩ := hr7 i y e; exact ⟨s, h, h'⟩
    subst ey
    refine r_nil ⟨D, _, rfl, .inl ⟨SqL.of hD7, fun a6 f6 => ?_⟩⟩
    have g8 : Go [] H6 (upd H7 a6 (.tup ((m.steps.map Stp.name).map V.str))) := g7.trans (Go.new f6)
    have n8 : SqT c.K (upd H7 a6 (.tup ((m.steps.map Stp.name).map V.str))) a6 ((m.steps.map Stp.name).map V.str) := .inl (.inl upd_same)
    generalize upd H7 a6 (.tup ((m.steps.map Stp.name).map V.str)) = H8 at g8 n8
    have o8 : H8 o = some (.ins C dx fs5) := g8.old o _ (fun z => nomatch z) o6
    refine ⟨_, rfl, o, C, dx, fs5, rfl, o8, F.cls, nA _ (by decide), by omega, ?_⟩
    have k9 : Keep o H (upd H8 o (.ins C dx (putF "_names" (.ref a6) fs5))) := (k6.trans (Go.keep g8)).trans Keep.upd
    have n9 := (Keep.tk (K := c.K) (Keep.upd (u := .ins C dx (putF "_names" (.ref a6) fs5))) o8) _ _ n8
    have f6' : (putF "_names" (.ref a6) fs5).length ≤ 6 := putF_s f5
    generalize hfs6 : putF "_names" (.ref a6) fs5 = fs6 at k9 n9 f6'
    generalize hH9 : upd H8 o (.ins C dx fs6) = H9 at k9 n9
    have o9 : H9 o = some (.ins C dx fs6) := by rw [← hH9]; exact upd_same
    have t9 : Tk c.K H H9 := k9.tk ho
    clear hH9
    have p9 := t9 _ _ h3
    refine ⟨_, rfl, r_nil ⟨a3, _, rfl, .inr p9, fun l fl => ?_⟩⟩
    have g10 : Go [] H9 (upd H9 l (.lst (m.pages.map V.str))) := Go.new fl
    have l10 : SqL c.K (upd H9 l (.lst (m.pages.map V.str))) l (m.pages.map V.str) := .inl (.inl upd_same)
    generalize upd H9 l (.lst (m.pages.map V.str)) = H10 at g10 l10
    refine ⟨_, rfl, r_nil (r_lenT (g10.sqT (t9 _ _ h5)) ?_)⟩
    obtain ⟨c0, cC, ci⟩ := hC
    have lenp : (m.pages.map V.str).length = m.pages.length := by simp
    have lenf : (m.first.map V.str).length = m.first.length := by simp
    have fl' : m.first.length < m.pages.length := by
      simp only [setB, Bool.and_eq_true, decide_eq_true_eq] at b5
      exact b5.2.2.1
    refine r_nil ⟨l, _, _, cs, rfl, l10, by rw [lenf, lenp]; omega, by rw [lenp]; exact pl, by rw [lenf]; exact c0, by rw [lenp]; exact cC, by rw [lenp]; exact ci, fun H11 a7 ts k11 e7 lts ets => ?_⟩
    have g11 : Go [] H9 H11 := g10.trans ⟨fun b u _ e => k11 b u e, fun b u _ e => k11 b u e⟩
    have o11 : H11 o = some (.ins C dx fs6) := g11.old o _ (fun z => nomatch z) o9
    refine ⟨_, rfl, o, C, dx, fs6, rfl, o11, F.cls, nA _ (by decide), by omega, ?_⟩
    have kk : Keep o H11 (upd H11 o (.ins C dx (putF "_sets" (.ref a7) fs6))) := Keep.upd
    have k12 : Keep o H (upd H11 o (.ins C dx (putF "_sets" (.ref a7) fs6))) := (k9.trans (Go.keep g11)).trans Keep.upd
    have tt := Keep.tk (K := c.K) kk o11
    have n12 := tt _ _ (g11.sqT n9)
    have s12 : SqT c.K (upd H11 o (.ins C dx (putF "_sets" (.ref a7) fs6))) a7 (ts.map V.ref) := tt _ _ (.inl (.inl e7))
    have e12 : ∀ (j : Nat) (t : Addr) (ix : List Nat), ts[j]? = some t → cs[j]? = some ix → SqT c.K (upd H11 o (.ins C dx (putF "_sets" (.ref a7) fs6))) t (ix.map fun i => (m.pages.map V.str).getD i .non) := fun j t ix z1 z2 => tt _ _ (.inl (.inl (ets j t ix z1 z2)))
    have f7' : (putF "_sets" (.ref a7) fs6).length ≤ 7 := putF_s f6'
    clear kk tt
    generalize hfs7 : putF "_sets" (.ref a7) fs6 = fs7 at k12 n12 s12 e12 f7'
    generalize hH12 : upd H11 o (.ins C dx fs7) = H12 at k12 n12 s12 e12
    have o12 : H12 o = some (.ins C dx fs7) := by rw [← hH12]; exact upd_same
    have t12 : Tk c.K H H12 := k12.tk ho
    clear hH12
    have nd : (m.steps.map Stp.name).Nodup := by
      simp only [stepsB, Bool.and_eq_true, decide_eq_true_eq] at b1
      exact b1.2.2.2.1
    obtain ⟨us, u1, u2, u3⟩ := h1.tk t12
    refine .inl (.inr ⟨_, rfl, a1, rfl, ⟨_, u1⟩, fun d1 hd1 => ?_⟩)
    refine dc_map (walk_tup (xs := us)) (fun i kvs _ => i ≤ m.steps.length ∧ kvs = (m.steps.take i).map fun s => (.inr s.name, pgV s.page)) yk_at hd1 (fun H' g => g.sqT u1) ⟨Nat.zero_le _, rfl⟩ (fun _ _ _ _ _ _ h => h) ?_ ?_ ?_
    · rintro i kvs H' ⟨_, rfl⟩
      simp
      omega
    · rintro i y H13 H14 kvs Fin hi g13 ⟨hi2, rfl⟩ ⟨rfl, hx⟩ g14 fin
      obtain ⟨st, hst⟩ : ∃ s, m.steps[i]? = some s := ⟨_, List.getElem?_eq_getElem (by omega)⟩
      obtain ⟨b', f', e, q1, q2⟩ := (u3 i y st hx hst).go g13
      subst e
      refine ⟨b', _, rfl, q1, rfl, _, _, rfl, _, _, rfl, _, _, rfl, rfl, rfl, ?_⟩
      refine ⟨_, rfl, _, rfl, fin (.inr st.name) _ _ (Go.refl _ _) ⟨by omega, ?_⟩⟩
      have ei : m.steps.take (i + 1) = m.steps.take i ++ [st] := by
        rw [List.take_add_one, hst]
        rfl
      rw [ei, List.map_append]
      refine putK_new _ (valV_free fun p hp => ?_)
      obtain ⟨s', hs', rfl⟩ := List.mem_map.mp hp
      obtain ⟨j, hj⟩ := List.mem_iff_getElem?.mp hs'
      have hji : j < i := by
        have := (List.getElem?_eq_some_iff.mp hj).1
        simp at this
        omega
      rw [List.getElem?_take_of_lt hji] at hj
      intro z
      have z' : s'.name = st.name := by simpa using z
      exact nodup_ne nd hj hst (by omega) z'
    rintro H13 kvs g13 ⟨_, rfl⟩ e13
    rw [u2, List.take_length] at e13
    have o13 : H13 o = some (.ins C dx fs7) := g13.old o _ (fun z => nomatch z) o12
    have do1 : d1 ≠ o := fun z => by rw [z, o12] at hd1; cases hd1
    refine ⟨_, rfl, o, C, dx, fs7, rfl, o13, F.cls, nA _ (by decide), by omega, ?_⟩
    have kk : Keep o H13 (upd H13 o (.ins C dx (putF "_page_of" (.ref d1) fs7))) := Keep.upd
    have k14 : Keep o H (upd H13 o (.ins C dx (putF "_page_of" (.ref d1) fs7))) := (k12.trans (Go.keep g13)).trans Keep.upd
    have tt : Tk c.K H12 (upd H13 o (.ins C dx (putF "_page_of" (.ref d1) fs7))) := (Go.tk g13).trans (Keep.tk kk o13)
    have n14 := tt _ _ n12
    have s14 := tt _ _ s12
    have e14 : ∀ (j : Nat) (t : Addr) (ix : List Nat), ts[j]? = some t → cs[j]? = some ix → SqT c.K (upd H13 o (.ins C dx (putF "_page_of" (.ref d1) fs7))) t (ix.map fun i => (m.pages.map V.str).getD i .non) := fun j t ix z1 z2 => tt _ _ (e12 j t ix z1 z2)
    have d14 : (upd H13 o (.ins C dx (putF "_page_of" (.ref d1) fs7))) d1 = some (.dK (m.steps.map fun s => (.inr s.name, pgV s.page))) := kk _ _ do1 e13
    have f8' : (putF "_page_of" (.ref d1) fs7).length ≤ 8 := putF_s f7'
    clear kk tt
    generalize hfs8 : putF "_page_of" (.ref d1) fs7 = fs8 at k14 n14 s14 e14 f8' d14
    generalize hH14 : upd H13 o (.ins C dx fs8) = H14 at k14 n14 s14 e14 d14
    have o14 : H14 o = some (.ins C dx fs8) := by rw [← hH14]; exact upd_same
    have t14 : Tk c.K H H14 := k14.tk ho
    clear hH14
    obtain ⟨xs, x1, x2, x3⟩ := h1.tk t14
    refine .inl (.inr ⟨_, rfl, a1, rfl, ⟨_, x1⟩, fun d2 hd2 => ?_⟩)
    refine dc_map (walk_tup (xs := xs)) (fun i kvs H' => i ≤ m.steps.length ∧ kvs.length = i ∧ ∀ (j : Nat) (s : Stp) (p : Key × V), m.steps[j]? = some s → kvs[j]? = some p → ∃ f, p = (.inr s.name, .ref f) ∧ SqT c.K H' f (s.fol.map V.str)) yk_at hd2 (fun H' g => g.sqT x1)
      ⟨Nat.zero_le _, rfl, fun j s p _ z => by simp at z⟩ (fun i kvs N Ha Hb g h => ⟨h.1, h.2.1, fun j s p z1 z2 => by obtain ⟨f, e, k⟩ := h.2.2 j s p z1 z2; exact ⟨f, e, g.sqT k⟩⟩) ?_ ?_ ?_
    · rintro i kvs H' ⟨z1, z2, _⟩
      omega
    · rintro i y H15 H16 kvs Fin hi g15 ⟨hi2, hl, hall⟩ ⟨rfl, hx⟩ g16 fin
      obtain ⟨st, hst⟩ : ∃ s, m.steps[i]? = some s := ⟨_, List.getElem?_eq_getElem (by omega)⟩
      obtain ⟨b', f', e, q1, q2⟩ := (x3 i y st hx hst).go g15
      subst e
      refine ⟨b', _, rfl, q1, rfl, _, _, rfl, _, _, rfl, _, _, rfl, rfl, rfl, ?_⟩
      have en : putK kvs (.inr st.name) (.ref f') = kvs ++ [(.inr st.name, .ref f')] := by
        refine putK_new _ (valV_free fun p hp => ?_)
        obtain ⟨j, hj⟩ := List.mem_iff_getElem?.mp hp
        have hji : j < i := by
          have := (List.getElem?_eq_some_iff.mp hj).1
          omega
        obtain ⟨s', hs'⟩ : ∃ s, m.steps[j]? = some s := ⟨_, List.getElem?_eq_getElem (by omega)⟩
        obtain ⟨f, ef, _⟩ := hall j s' p hs' hj
        rw [ef]
        intro z
        have z' : s'.name = st.name := by simpa using z
        exact nodup_ne nd hs' hst (by omega) z'
      refine ⟨_, rfl, _, rfl, fin (.inr st.name) _ _ (Go.refl _ _) ⟨by omega, by rw [en]; simp [hl], ?_⟩⟩
      rw [en]
      intro j s p z1 z2
      by_cases hj : j < kvs.length
      · rw [List.getElem?_append_left hj] at z2
        exact hall j s p z1 z2
      · have hj2 : j = kvs.length := by
          have := (List.getElem?_eq_some_iff.mp z2).1
          simp at this
          omega
        subst hj2
        rw [List.getElem?_append_right (Nat.le_refl _)] at z2
        have z3 : p = (.inr st.name, .ref f') := by simpa using z2.symm
        rw [hl, hst] at z1
        cases z1
        exact ⟨f', z3, q2⟩
    rintro H15 kvs g15 ⟨_, hl, hall⟩ e15
    rw [x2] at hl
    have o15 : H15 o = some (.ins C dx fs8) := g15.old o _ (fun z => nomatch z) o14
    have do2 : d2 ≠ o := fun z => by rw [z, o14] at hd2; cases hd2
    refine ⟨_, rfl, o, C, dx, fs8, rfl, o15, F.cls, nA _ (by decide), by omega, ?_⟩
    have kk : Keep o H15 (upd H15 o (.ins C dx (putF "_following_of" (.ref d2) fs8))) := Keep.upd
    have k16 : Keep o H (upd H15 o (.ins C dx (putF "_following_of" (.ref d2) fs8))) := (k14.trans (Go.keep g15)).trans Keep.upd
    have tt : Tk c.K H14 (upd H15 o (.ins C dx (putF "_following_of" (.ref d2) fs8))) := (Go.tk g15).trans (Keep.tk kk o15)
    have t15 : Tk c.K H15 (upd H15 o (.ins C dx (putF "_following_of" (.ref d2) fs8))) := Keep.tk kk o15
    have tH := k16.tk (K := c.K) ho
    have d16 := kk _ _ do1 (g15.old d1 _ (fun z => nomatch z) d14)
    refine q _ k16 ⟨⟨dx, _, a1, a2, a3, a5, a6, a7, d1, d2, ts, _, kvs, upd_same, ?_, h1.tk tH, ?_, tH _ _ h2, ?_, tH _ _ h3, ?_, ?_, tH _ _ h5, ?_, tt _ _ n14, ?_, tt _ _ s14, lts, fun j t ix z1 z2 => tt _ _ (e14 j t ix z1 z2), ?_, d16, rfl, ?_, kk _ _ do2 e15, hl, fun i s p z1 z2 => ?_, fun f hf => ?_⟩⟩
    all_goals first
      | (rw [← hfs8, ← hfs7, ← hfs6, ← hfs]; simp (decide := true) only [lookup_putF, if_true, if_false, reduceIte]; done)
      | skip
    · obtain ⟨f, ef, kf⟩ := hall i s p z1 z2
      exact ⟨f, ef, t15 _ _ kf⟩
    · simp only [mNames, List.mem_cons, List.not_mem_nil, or_false, not_or] at hf
      obtain ⟨x1, x2, x3, x4, x5, x6, x7, x8, x9⟩ := hf
      rw [← hfs8, ← hfs7, ← hfs6, ← hfs]
      simp only [lookup_putF, x1, x2, x3, x4, x5, x6, x7, x8, x9, if_false]
      rfl
end
end Sd

namespace Sd
open PySem PySem.Spec PyProof.Rows L2 RZ RT
/-- a step's name is known -/
def spKnown (c : Wd) (C : Addr) : Sp := fun vs H Q _ => ∃ (o : Addr) (m : Mac) (cs : List (List Nat)) (i : Nat) (st : Stp), vs = [.ref o, .str st.name] ∧ MacAt c.K C H o m cs ∧ m.steps[i]? = some st ∧ ∀ H', Go [] H H' → Q .non H'
def spPage (c : Wd) (C : Addr) : Sp := fun vs H Q _ => ∃ (o : Addr) (m : Mac) (cs : List (List Nat)) (i : Nat) (st : Stp), vs = [.ref o, .str st.name] ∧ MacAt c.K C H o m cs ∧ macB m = true ∧ m.steps[i]? = some st ∧ ∀ H', Go [] H H' → Q (pgV st.page) H'
theorem MacAt.go {K : PySem.W.Frag} {C : Addr} {H H' : Hp} {o : Addr} {m : Mac} {cs : List (List Nat)} (h : MacAt K C H o m cs) (g : Go [] H H') : MacAt K C H' o m cs := by
  obtain ⟨dx, fs, a1, a2, a3, a5, a6, a7, d1, d2, ts, kv1, kv2, e0, e1, e2, e3, e4, e5, e6, e7, e8, e9, e10, e11, e12, e13, e14, e15, e16, e17, e18, e19, e20, e21, e22, e23⟩ := h.ex
  have kp : ∀ b u, H b = some u → H' b = some u := fun b u e => g.old b u (fun z => nomatch z) e
  exact ⟨dx, fs, a1, a2, a3, a5, a6, a7, d1, d2, ts, kv1, kv2, kp _ _ e0, e1, e2.go g, e3, g.sqT e4, e5, g.sqT e6, e7, e8, g.sqT e9, e10, g.sqT e11, e12, g.sqT e13, e14, fun j t ix z1 z2 => g.sqT (e15 j t ix z1 z2), e16, kp _ _ e17, e18, e19, kp _ _ e20, e21,
    fun i s p z1 z2 => by obtain ⟨f, z, z'⟩ := e22 i s p z1 z2; exact ⟨f, z, g.sqT z'⟩, e23⟩
theorem valV_steps {ss : List Stp} (v : Stp → V) (h : (ss.map Stp.name).Nodup) {i : Nat} {st : Stp} (hi : ss[i]? = some st) : valV (ss.map fun s => ((.inr s.name, v s) : Key × V)) (.inr st.name) = some (v st) := by
  induction ss generalizing i with
  | nil => simp at hi
  | cons s ss ih =>
    rw [List.map_cons]
    by_cases e : s.name = st.name
    · rw [valV_pos (by simp [e])]
      cases i with
      | zero =>
        have : s = st := by simpa using hi
        rw [this]
      | succ i =>
        have hi' : ss[i]? = some st := by simpa using hi
        have := (List.nodup_cons.mp h).1
        exact absurd (List.mem_map.mpr ⟨st, List.mem_of_getElem? hi', e.symm⟩) this
    · rw [valV_neg (by simpa using e)]
      cases i with
      | zero =>
        have : s = st := by simpa using hi
        exact absurd (congrArg Stp.name this) e
      | succ i => exact ih (List.nodup_cons.mp h).2 (by simpa using hi)
theorem dget_K {H : Hp} {a : Addr} {kvs : List (Key × V)} {x : Str} {v : V} (h : H a = some (.dK kvs)) (e : valV kvs (.inr x) = some v) : DGet H a (.str x) (some v) := by
  rw [← e]
  exact DGet.k (k := .inr x) h
section
variable {c : Wd} {C : Addr}
abbrev s_Machine__check_step : Stmt := inClass (topS 46) 13
abbrev N_Machine__check_step : List Str := ["self", "name"]
abbrev P_Machine__check_step : List Str := ["self", "name"]
theorem sc_Machine__check_step : FnScope N_Machine__check_step P_Machine__check_step (defScope s_Machine__check_step) := ⟨rfl, rfl, rfl, by decide +kernel, rfl, by decide +kernel, by decide +kernel⟩
theorem ok_Machine__check_step (F : MtAt c C "_check_step" "Machine._check_step" s_Machine__check_step P_Machine__check_step) (B : Bi c) (n1 : NoAttr c.K C "_names") : MtO c C "_check_step" 1 P_Machine__check_step (spKnown c C) := by
  refine mt_of F sc_Machine__check_step (fun vs H Q E h => ?_) (fun f cdv A out s H vs Q E hr h => ?_)
  · obtain ⟨o, m, cs, i, st, rfl, _⟩ := h
    rfl
  · obtain ⟨o, m, cs, i, st, rfl, hM, hi, q⟩ := h
    have hu5 := hr.u5
    refine ⟨_, (pss_one (ps_if (pt_cmpR (op_niU (K := c.K) hu5) (pv 1) (pe_fld (pv 0) rfl) (by rfl)) (pss_one ps_never) pss_nil)), ?_⟩
    obtain ⟨dx, fs, a1, a2, a3, a5, a6, a7, d1, d2, ts, kv1, kv2, e0, e1, e2, e3, e4, e5, e6, e7, e8, e9, e10, e11, _⟩ := hM.ex
    refine ⟨_, rfl, _, rfl, o, C, dx, fs, _, rfl, e0, F.cls, n1, e10, r_niT e11 rfl (flat_strs _) ⟨_, rfl, ?_⟩⟩
    have e : inV (.str st.name) ((m.steps.map Stp.name).map V.str) = true := by
      rw [inV_strs]
      exact decide_eq_true (List.mem_map.mpr ⟨st, List.mem_of_getElem? hi, rfl⟩)
    rw [e]
    exact (if_neg (by simp)).mpr (q _ (Go.refl _ _))
abbrev s_Machine_page : Stmt := inClass (topS 46) 10
abbrev N_Machine_page : List Str := ["self", "name"]
abbrev P_Machine_page : List Str := ["self", "name"]
theorem sc_Machine_page : FnScope N_Machine_page P_Machine_page (defScope s_Machine_page) := ⟨rfl, rfl, rfl, by decide +kernel, rfl, by decide +kernel, by decide +kernel⟩
theorem ok_Machine_page (F : MtAt c C "page" "Machine.page" s_Machine_page P_Machine_page) (B : Bi c) (n1 : NoAttr c.K C "_page_of") (D_Machine__check_step : MtO c C "_check_step" 1 P_Machine__check_step (spKnown c C)) : MtO c C "page" 2 P_Machine_page (spPage c C) := by
  refine mt_of F sc_Machine_page (fun vs H Q E h => ?_) (fun f cdv A out s H vs Q E hr h => ?_)
  · obtain ⟨o, m, cs, i, st, rfl, _⟩ := h
    rfl
  · obtain ⟨o, m, cs, i, st, rfl, hM, hB, hi, q⟩ := h
    have hu1 := hu_of hr
    refine ⟨_, (pss_cons (ps_expr (pe_mtO D_Machine__check_step (hr.mono (by decide)) (pv 0) (pa_cons (pv 1) pa_nil)))
    (pss_one (ps_ret (pe_ixU (K := c.K) hu1 (pe_fld (pv 0) rfl) (pv 1) (fun _ _ => rfl) (fun _ _ => rfl))))), ?_⟩
    obtain ⟨dx, fs, _, _, _, _, _, _, _, _, _, _, _, e0, _, _, _, _, _, _, _, _, _, _, _, _, _, _, _, _, _, _, _, _, _, _, e23⟩ := id hM.ex
    refine ⟨_, rfl, o, dx, fs, rfl, e0, e23 _ (by decide), _, rfl, o, m, cs, i, st, rfl, hM, hi, fun H1 g1 => ?_⟩
    obtain ⟨dx', fs', _, _, _, _, _, _, d1, _, _, kv1, _, k0, _, _, _, _, _, _, _, _, _, _, _, _, _, _, _, k16, k17, k18, _⟩ := (hM.go g1).ex
    have nd : (m.steps.map Stp.name).Nodup := by
      simp only [macB, stepsB, Bool.and_eq_true, decide_eq_true_eq] at hB
      exact hB.1.2.2.2.1
    have ev : valV kv1 (.inr st.name) = some (pgV st.page) := by
      rw [k18]
      exact valV_steps (fun s => pgV s.page) nd hi
    exact .inr ⟨_, rfl, o, C, dx', fs', _, rfl, k0, F.cls, n1, k16, _, rfl, d1, _, rfl, dget_K k17 ev, q _ g1⟩
end
end Sd

namespace Sd
open PySem PySem.Spec PyProof.Rows L2 RZ RT
/-- the names that may follow a known step -/
def spFol (c : Wd) (C : Addr) : Sp := fun vs H Q _ => ∃ (o : Addr) (m : Mac) (cs : List (List Nat)) (i : Nat) (st : Stp), vs = [.ref o, .str st.name] ∧ MacAt c.K C H o m cs ∧ macB m = true ∧ m.steps[i]? = some st ∧ ∀ H' f, Go [] H H' → SqT c.K H' f (st.fol.map V.str) → Q (.ref f) H'
theorem MacAt.fol {K : PySem.W.Frag} {C : Addr} {H : Hp} {o : Addr} {m : Mac} {cs : List (List Nat)} (h : MacAt K C H o m cs) (hB : macB m = true) {i : Nat} {st : Stp} (hi : m.steps[i]? = some st) :
    ∃ (dx : Addr) (fs : List (Str × V)) (d f : Addr), H o = some (.ins C dx fs) ∧ fs.lookup ("_following_of" : Str) = some (.ref d) ∧ DGet H d (.str st.name) (some (.ref f)) ∧ SqT K H f (st.fol.map V.str) := by
  obtain ⟨dx, fs, _, _, _, _, _, _, _, d2, _, _, kv2, k0, _, _, _, _, _, _, _, _, _, _, _, _, _, _, _, _, _, _, k19, k20, k21, k22, _⟩ := h.ex
  have nd : (m.steps.map Stp.name).Nodup := by
    simp only [macB, stepsB, Bool.and_eq_true, decide_eq_true_eq] at hB
    exact hB.1.2.2.2.1
  have hil := (List.getElem?_eq_some_iff.mp hi).1
  obtain ⟨p, hp⟩ : ∃ p, kv2[i]? = some p := ⟨_, List.getElem?_eq_getElem (by omega)⟩
  obtain ⟨f, ep, hf⟩ := k22 i st p hi hp
  refine ⟨dx, fs, d2, f, k0, k19, dget_K k20 ?_, hf⟩
  have gen : ∀ (ss : List Stp) (kvs : List (Key × V)) (i : Nat), (ss.map Stp.name).Nodup → kvs.length = ss.length → (∀ (j : Nat) (s : Stp) (p : Key × V), ss[j]? = some s → kvs[j]? = some p → p.1 = .inr s.name) → ss[i]? = some st → kvs[i]? = some (.inr st.name, .ref f) → valV kvs (.inr st.name) = some (.ref f) := by
    intro ss
    induction ss with
    | nil => intro kvs i _ _ _ h _; simp at h
    | cons s ss ih =>
      intro kvs i hn hl hk hi hp
      cases kvs with
      | nil => simp at hl
      | cons q kvs =>
        have hq := hk 0 s q rfl rfl
        cases i with
        | zero =>
          have e1 : q = (.inr st.name, .ref f) := by simpa using hp
          rw [valV_pos (by rw [e1]), e1]
        | succ i =>
          have hi' : ss[i]? = some st := by simpa using hi
          have ne : ¬ q.1 = .inr st.name := by
            rw [hq]
            intro z
            have z' : s.name = st.name := by simpa using z
            exact (List.nodup_cons.mp hn).1 (List.mem_map.mpr ⟨st, List.mem_of_getElem? hi', z'.symm⟩)
          rw [valV_neg ne]
          exact ih kvs i (List.nodup_cons.mp hn).2 (by simpa using hl) (fun j s' p' h1 h2 => hk (j + 1) s' p' h1 h2) hi' (by simpa using hp)
  refine gen m.steps kv2 i nd k21 (fun j s p' h1 h2 => ?_) hi (by rw [hp, ep])
  obtain ⟨f', e', _⟩ := k22 j s p' h1 h2
  rw [e']
section
variable {c : Wd} {C : Addr}
abbrev s_Machine_following : Stmt := inClass (topS 46) 9
abbrev N_Machine_following : List Str := ["self", "name"]
abbrev P_Machine_following : List Str := ["self", "name"]
theorem sc_Machine_following : FnScope N_Machine_following P_Machine_following (defScope s_Machine_following) := ⟨rfl, rfl, rfl, by decide +kernel, rfl, by decide +kernel, by decide +kernel⟩
theorem ok_Machine_following (F : MtAt c C "following" "Machine.following" s_Machine_following P_Machine_following) (B : Bi c) (n1 : NoAttr c.K C "_following_of") (D_Machine__check_step : MtO c C "_check_step" 1 P_Machine__check_step (spKnown c C)) : MtO c C "following" 2 P_Machine_following (spFol c C) := by
  refine mt_of F sc_Machine_following (fun vs H Q E h => ?_) (fun f cdv A out s H vs Q E hr h => ?_)
  · obtain ⟨o, m, cs, i, st, rfl, _⟩ := h
    rfl
  · obtain ⟨o, m, cs, i, st, rfl, hM, hB, hi, q⟩ := h
    have hu1 := hu_of hr
    refine ⟨_, (pss_cons (ps_expr (pe_mtO D_Machine__check_step (hr.mono (by decide)) (pv 0) (pa_cons (pv 1) pa_nil)))
    (pss_one (ps_ret (pe_ixU (K := c.K) hu1 (pe_fld (pv 0) rfl) (pv 1) (fun _ _ => rfl) (fun _ _ => rfl))))), ?_⟩
    obtain ⟨dx, fs, _, _, _, _, _, _, _, _, _, _, _, e0, _, _, _, _, _, _, _, _, _, _, _, _, _, _, _, _, _, _, _, _, _, _, e23⟩ := id hM.ex
    refine ⟨_, rfl, o, dx, fs, rfl, e0, e23 _ (by decide), _, rfl, o, m, cs, i, st, rfl, hM, hi, fun H1 g1 => ?_⟩
    obtain ⟨dx', fs', d, f', k0, k1, k2, k3⟩ := (hM.go g1).fol hB hi
    exact .inr ⟨_, rfl, o, C, dx', fs', _, rfl, k0, F.cls, n1, k1, _, rfl, d, _, rfl, k2, q _ _ g1 k3⟩
end
end Sd

namespace Sd
open PySem PySem.Spec PyProof.Rows L2 RZ RT
/-- a run, by its names -/
structure RunOk (m : Mac) (ns : List Str) : Prop where
  beg : ∃ s, m.steps[0]? = some s ∧ ns[0]? = some s.name
  nxt : ∀ (j : Nat) (a b : Str), ns[j]? = some a → ns[j + 1]? = some b → ∃ (i : Nat) (st : Stp), m.steps[i]? = some st ∧ st.name = a ∧ b ∈ st.fol
  few : ns.length ≤ 1000
def spIsRun (c : Wd) (C : Addr) : Sp := fun vs H Q _ => ∃ (o r : Addr) (m : Mac) (cs : List (List Nat)) (ns : List Str), vs = [.ref o, .ref r] ∧ MacAt c.K C H o m cs ∧ macB m = true ∧ SqT c.K H r (ns.map V.str) ∧ RunOk m ns ∧ ∀ H', Go [] H H' → Q (.bl true) H'
section
variable {c : Wd} {C : Addr}
abbrev s_Machine_is_run : Stmt := inClass (topS 46) 11
abbrev N_Machine_is_run : List Str := ["self", "value", "ahead", "name"]
abbrev P_Machine_is_run : List Str := ["self", "value"]
theorem sc_Machine_is_run : FnScope N_Machine_is_run P_Machine_is_run (defScope s_Machine_is_run) := ⟨rfl, rfl, rfl, by decide +kernel, rfl, by decide +kernel, by decide +kernel⟩
theorem ok_Machine_is_run (F : MtAt c C "is_run" "Machine.is_run" s_Machine_is_run P_Machine_is_run) (B : Bi c) (nA : ∀ f : Str, f ∈ mNames → NoAttr c.K C f) : MtO c C "is_run" 3 P_Machine_is_run (spIsRun c C) := by
  refine mt_of F sc_Machine_is_run (fun vs H Q E h => ?_) (fun f cdv A out s H vs Q E hr h => ?_)
  · obtain ⟨o, r, m, cs, ns, rfl, _⟩ := h
    rfl
  · obtain ⟨o, r, m, cs, ns, rfl, hM, hB, hs, hR, q⟩ := h
    have hu1 := hu_of hr
    have hu := hr.units
    have hu5 := hr.u5
    refine ⟨_, (pss_cons (ps_if (PW.pt (pw_or (pt_not (pt_val (pe_callB (call_isiU (K := c.K)) (by rfl) B.isinstance (by decide +kernel) (pa_cons (pv 1) (pa_cons (pe_ty "tuple" "tuple" (by rfl) B.tuple (by decide +kernel)) pa_nil))))) (pw_or (pt_cmpR (op_eqU (K := c.K) hu) (pe_callB (call_lenU (K := c.K)) (by rfl) B.len (by decide +kernel) (pa_cons (pv 1) pa_nil)) pe_int (nomark _)) (pw_or1 (pt_cmpR (op_neU (K := c.K) hu) (pe_ixU (K := c.K) hu1 (pv 1) pe_int (fun _ _ => rfl) (fun _ _ => rfl)) (pe_ixU (K := c.K) hu1 (pe_fld (pv 0) rfl) pe_int (fun _ _ => rfl) (fun _ _ => rfl)) (nomark _)))))) (pss_one (ps_ret pe_bl)) pss_nil)
    (pss_cons (ps_set (i := 2) sc_Machine_is_run.nd rfl (by first | exact Or.inl rfl | exact Or.inr rfl) (pe_ixU (K := c.K) hu1 (pv 1) pe_int (fun _ _ => rfl) (fun _ _ => rfl)))
    (pss_cons (ps_for PassesOwn.never rfl (pi_seq (K := c.K) (pe_slice (sl_U (K := c.K)) (pv 1) (po_some pe_int) po_none)) (pg_name (i := 3) sc_Machine_is_run.nd rfl (by first | exact Or.inl rfl | exact Or.inr rfl)) (pss_cons (ps_if (pt_cmpR (op_niU (K := c.K) hu5) (pv 3) (pe_ixU (K := c.K) hu1 (pe_fld (pv 0) rfl) (pv 2) (fun _ _ => rfl) (fun _ _ => rfl)) (by rfl)) (pss_one (ps_ret pe_bl)) pss_nil)
    (pss_one (ps_set (i := 2) sc_Machine_is_run.nd rfl (by first | exact Or.inl rfl | exact Or.inr rfl) (pv 3)))))
    (pss_one (ps_ret pe_bl))))), ?_⟩
    refine ⟨_, rfl, r_c (r_nil (r_isTup (dp_names hs) ⟨_, rfl, ?_⟩))⟩
    refine (if_neg (by simp [isTup, namesD])).mpr ?_
    obtain ⟨dx, fs, _, _, _, _, a6, _, _, _, _, _, _, e0, _, _, _, _, _, _, _, _, _, e10, e11, _⟩ := id hM.ex
    obtain ⟨s0, hs0, hn0⟩ := hR.beg
    have hlen : (ns.map V.str).length = ns.length := by simp
    have hpos : 1 ≤ ns.length := by
      have := (List.getElem?_eq_some_iff.mp hn0).1
      omega
    refine ⟨_, rfl, r_nil (r_lenT hs ?_)⟩
    refine .inl ⟨rfl, _, rfl, ?_⟩
    have nz : ¬ (V.int ((ns.map V.str).length : Nat) = V.int 0) := by
      rw [hlen]
      intro z
      have z' : ((ns.length : Nat) : Int) = 0 := by simpa using z
      omega
    refine (if_neg (by rw [decide_eq_false nz]; simp)).mpr ?_
    refine .inl ⟨_, rfl, ixT (i := 0) hs (by rw [List.getElem?_map, hn0]; rfl) ?_⟩
    refine .inl ⟨_, rfl, o, C, dx, fs, _, rfl, e0, F.cls, nA _ (by decide), e10, ixT (i := 0) e11 (by rw [List.getElem?_map, List.getElem?_map, hs0]; rfl) ?_⟩
    refine .inl ⟨rfl, _, rfl, ?_⟩
    refine (if_neg (by simp)).mpr ?_
    refine .inl ⟨_, rfl, ixT (i := 0) hs (by rw [List.getElem?_map, hn0]; rfl) ?_⟩
    refine .inl (.inr ⟨_, rfl, 1, rfl, r_slT hs fun b H1 g1 hb => ⟨b, rfl, ⟨_, hb⟩, ?_⟩⟩)
    have ec : cutV (ns.map V.str) (some (1 : Int)) none = (ns.drop 1).map V.str := by
      have := cut_from (xs := ns.map V.str) 1
      rw [List.map_drop]
      exact this
    rw [ec] at hb
    refine for_it (walk_tup (xs := (ns.drop 1).map V.str)) (fun i σ H' => Go [] H1 H' ∧ ∃ a z, ns[i]? = some a ∧ σ = [some (.ref o), some (.ref r), some (.str a), z]) ⟨Go.refl _ _, s0.name, _, hn0, rfl⟩ (fun i σ H' _ h => h.1.sqT hb) ?_ ?_
    · rintro i x σ H2 H3 hi ⟨g2, a, z, ha, rfl⟩ ⟨rfl, hx⟩
      have hx' : ∃ p, ns[i + 1]? = some p ∧ x = .str p := by
        rw [List.getElem?_map, List.getElem?_drop] at hx
        cases h : ns[1 + i]? with
        | none => rw [h] at hx; simp at hx
        | some p => rw [h] at hx; exact ⟨p, by rw [Nat.add_comm]; exact h, by simpa using hx.symm⟩
      obtain ⟨p, hp, rfl⟩ := hx'
      obtain ⟨k, st, hk, rfl, hin⟩ := hR.nxt i a p ha hp
      obtain ⟨dx', fs', d, f', k0, k1, k2, k3⟩ := (hM.go (g1.trans g2)).fol hB hk
      refine ⟨_, rfl, .inr ⟨_, rfl, o, C, dx', fs', _, rfl, k0, F.cls, nA _ (by decide), k1, _, rfl, d, _, rfl, k2, r_niT k3 rfl (flat_strs _) ⟨_, rfl, ?_⟩⟩⟩
      have e : inV (.str p) (st.fol.map V.str) = true := by
        rw [inV_strs]
        exact decide_eq_true hin
      rw [e]
      refine (if_neg (by simp)).mpr ?_
      exact ⟨_, rfl, g2, p, _, hp, rfl⟩
    · rintro σ H2 ⟨g2, _⟩
      exact q _ (g1.trans g2)
end
end Sd

namespace Sd
open PySem PySem.Spec PyProof.Rows L2 RZ RT
/-- what a property hands out: the instance's field -/
def spGet (C : Addr) (f : Str) : Sp := fun vs H Q _ => ∃ a dx fs v, vs = [.ref a] ∧ H a = some (.ins C dx fs) ∧ fs.lookup f = some v ∧ Q v H
section
variable {c : Wd} {C : Addr}
abbrev s_Machine_steps : Stmt := inClass (topS 46) 1
abbrev N_Machine_steps : List Str := ["self"]
abbrev P_Machine_steps : List Str := ["self"]
theorem sc_Machine_steps : FnScope N_Machine_steps P_Machine_steps (defScope s_Machine_steps) := ⟨rfl, rfl, rfl, by decide +kernel, rfl, by decide +kernel, by decide +kernel⟩
theorem ok_Machine_steps (F : PrAt c C "steps" "Machine.steps" s_Machine_steps P_Machine_steps) (n1 : NoAttr c.K C "_steps") : PrO c C "steps" 1 P_Machine_steps (spGet C "_steps") := by
  refine pr_of F sc_Machine_steps (fun vs H Q E h => ?_) (fun g cdv A out s H vs Q E hr h => ?_)
  · obtain ⟨a, dx, fs, v, rfl, _⟩ := h
    rfl
  · obtain ⟨a, dx, fs, v, rfl, ho, hf, q⟩ := h
    refine ⟨_, (pss_one (ps_ret (pe_fld (pv 0) rfl))), ?_⟩
    exact ⟨_, rfl, a, C, dx, fs, v, rfl, ho, F.cls, n1, hf, q⟩
abbrev s_Machine_clock : Stmt := inClass (topS 46) 2
abbrev N_Machine_clock : List Str := ["self"]
abbrev P_Machine_clock : List Str := ["self"]
theorem sc_Machine_clock : FnScope N_Machine_clock P_Machine_clock (defScope s_Machine_clock) := ⟨rfl, rfl, rfl, by decide +kernel, rfl, by decide +kernel, by decide +kernel⟩
theorem ok_Machine_clock (F : PrAt c C "clock" "Machine.clock" s_Machine_clock P_Machine_clock) (n1 : NoAttr c.K C "_clock") : PrO c C "clock" 1 P_Machine_clock (spGet C "_clock") := by
  refine pr_of F sc_Machine_clock (fun vs H Q E h => ?_) (fun g cdv A out s H vs Q E hr h => ?_)
  · obtain ⟨a, dx, fs, v, rfl, _⟩ := h
    rfl
  · obtain ⟨a, dx, fs, v, rfl, ho, hf, q⟩ := h
    refine ⟨_, (pss_one (ps_ret (pe_fld (pv 0) rfl))), ?_⟩
    exact ⟨_, rfl, a, C, dx, fs, v, rfl, ho, F.cls, n1, hf, q⟩
abbrev s_Machine_pages : Stmt := inClass (topS 46) 3
abbrev N_Machine_pages : List Str := ["self"]
abbrev P_Machine_pages : List Str := ["self"]
theorem sc_Machine_pages : FnScope N_Machine_pages P_Machine_pages (defScope s_Machine_pages) := ⟨rfl, rfl, rfl, by decide +kernel, rfl, by decide +kernel, by decide +kernel⟩
theorem ok_Machine_pages (F : PrAt c C "pages" "Machine.pages" s_Machine_pages P_Machine_pages) (n1 : NoAttr c.K C "_pages") : PrO c C "pages" 1 P_Machine_pages (spGet C "_pages") := by
  refine pr_of F sc_Machine_pages (fun vs H Q E h => ?_) (fun g cdv A out s H vs Q E hr h => ?_)
  · obtain ⟨a, dx, fs, v, rfl, _⟩ := h
    rfl
  · obtain ⟨a, dx, fs, v, rfl, ho, hf, q⟩ := h
    refine ⟨_, (pss_one (ps_ret (pe_fld (pv 0) rfl))), ?_⟩
    exact ⟨_, rfl, a, C, dx, fs, v, rfl, ho, F.cls, n1, hf, q⟩
abbrev s_Machine_move : Stmt := inClass (topS 46) 4
abbrev N_Machine_move : List Str := ["self"]
abbrev P_Machine_move : List Str := ["self"]
theorem sc_Machine_move : FnScope N_Machine_move P_Machine_move (defScope s_Machine_move) := ⟨rfl, rfl, rfl, by decide +kernel, rfl, by decide +kernel, by decide +kernel⟩
theorem ok_Machine_move (F : PrAt c C "move" "Machine.move" s_Machine_move P_Machine_move) (n1 : NoAttr c.K C "_move") : PrO c C "move" 1 P_Machine_move (spGet C "_move") := by
  refine pr_of F sc_Machine_move (fun vs H Q E h => ?_) (fun g cdv A out s H vs Q E hr h => ?_)
  · obtain ⟨a, dx, fs, v, rfl, _⟩ := h
    rfl
  · obtain ⟨a, dx, fs, v, rfl, ho, hf, q⟩ := h
    refine ⟨_, (pss_one (ps_ret (pe_fld (pv 0) rfl))), ?_⟩
    exact ⟨_, rfl, a, C, dx, fs, v, rfl, ho, F.cls, n1, hf, q⟩
abbrev s_Machine_first : Stmt := inClass (topS 46) 5
abbrev N_Machine_first : List Str := ["self"]
abbrev P_Machine_first : List Str := ["self"]
theorem sc_Machine_first : FnScope N_Machine_first P_Machine_first (defScope s_Machine_first) := ⟨rfl, rfl, rfl, by decide +kernel, rfl, by decide +kernel, by decide +kernel⟩
theorem ok_Machine_first (F : PrAt c C "first" "Machine.first" s_Machine_first P_Machine_first) (n1 : NoAttr c.K C "_first") : PrO c C "first" 1 P_Machine_first (spGet C "_first") := by
  refine pr_of F sc_Machine_first (fun vs H Q E h => ?_) (fun g cdv A out s H vs Q E hr h => ?_)
  · obtain ⟨a, dx, fs, v, rfl, _⟩ := h
    rfl
  · obtain ⟨a, dx, fs, v, rfl, ho, hf, q⟩ := h
    refine ⟨_, (pss_one (ps_ret (pe_fld (pv 0) rfl))), ?_⟩
    exact ⟨_, rfl, a, C, dx, fs, v, rfl, ho, F.cls, n1, hf, q⟩
abbrev s_Machine_names : Stmt := inClass (topS 46) 6
abbrev N_Machine_names : List Str := ["self"]
abbrev P_Machine_names : List Str := ["self"]
theorem sc_Machine_names : FnScope N_Machine_names P_Machine_names (defScope s_Machine_names) := ⟨rfl, rfl, rfl, by decide +kernel, rfl, by decide +kernel, by decide +kernel⟩
theorem ok_Machine_names (F : PrAt c C "names" "Machine.names" s_Machine_names P_Machine_names) (n1 : NoAttr c.K C "_names") : PrO c C "names" 1 P_Machine_names (spGet C "_names") := by
  refine pr_of F sc_Machine_names (fun vs H Q E h => ?_) (fun g cdv A out s H vs Q E hr h => ?_)
  · obtain ⟨a, dx, fs, v, rfl, _⟩ := h
    rfl
  · obtain ⟨a, dx, fs, v, rfl, ho, hf, q⟩ := h
    refine ⟨_, (pss_one (ps_ret (pe_fld (pv 0) rfl))), ?_⟩
    exact ⟨_, rfl, a, C, dx, fs, v, rfl, ho, F.cls, n1, hf, q⟩
abbrev s_Machine_sets : Stmt := inClass (topS 46) 7
abbrev N_Machine_sets : List Str := ["self"]
abbrev P_Machine_sets : List Str := ["self"]
theorem sc_Machine_sets : FnScope N_Machine_sets P_Machine_sets (defScope s_Machine_sets) := ⟨rfl, rfl, rfl, by decide +kernel, rfl, by decide +kernel, by decide +kernel⟩
theorem ok_Machine_sets (F : PrAt c C "sets" "Machine.sets" s_Machine_sets P_Machine_sets) (n1 : NoAttr c.K C "_sets") : PrO c C "sets" 1 P_Machine_sets (spGet C "_sets") := by
  refine pr_of F sc_Machine_sets (fun vs H Q E h => ?_) (fun g cdv A out s H vs Q E hr h => ?_)
  · obtain ⟨a, dx, fs, v, rfl, _⟩ := h
    rfl
  · obtain ⟨a, dx, fs, v, rfl, ho, hf, q⟩ := h
    refine ⟨_, (pss_one (ps_ret (pe_fld (pv 0) rfl))), ?_⟩
    exact ⟨_, rfl, a, C, dx, fs, v, rfl, ho, F.cls, n1, hf, q⟩
end
end Sd

namespace Sd
open PySem PySem.Spec PyProof.Rows L2 RZ RT
/-- the place in the clock of a turn -/
def spPlace (c : Wd) (C : Addr) : Sp := fun vs H Q _ => ∃ (o : Addr) (m : Mac) (cs : List (List Nat)) (n : Nat), vs = [.ref o, .int (n : Int)] ∧ MacAt c.K C H o m cs ∧ macB m = true ∧ ∀ H', Go [] H H' → Q (.int ((n % m.clock.length : Nat) : Int)) H'
section
variable {c : Wd} {C : Addr}
abbrev s_place_of : Stmt := topS 21
abbrev N_place_of : List Str := ["machine", "number"]
abbrev P_place_of : List Str := ["machine", "number"]
theorem sc_place_of : FnScope N_place_of P_place_of (defScope s_place_of) := ⟨rfl, rfl, rfl, by decide +kernel, rfl, by decide +kernel, by decide +kernel⟩
theorem ok_place_of (F : At c "place_of" "place_of" s_place_of P_place_of) (B : Bi c) (D_Machine_clock : PrO c C "clock" 1 P_Machine_clock (spGet C "_clock")) : Ok c "place_of" 3 P_place_of (spPlace c C) := by
  refine Ok.of F sc_place_of (fun vs H Q E h => ?_) (fun f cdv A out s H vs Q E hr h => ?_)
  · obtain ⟨o, m, cs, n, rfl, _⟩ := h
    rfl
  · obtain ⟨o, m, cs, n, rfl, hM, hB, q⟩ := h
    refine ⟨_, (pss_one (ps_ret (pe_op op_modU (pv 1) (pe_callB (call_lenU (K := c.K)) (by rfl) B.len (by decide +kernel) (pa_cons (pe_prO D_Machine_clock (hr.mono (by decide)) (pv 0)) pa_nil))))), ?_⟩
    obtain ⟨dx, fs, _, a2, _, _, _, _, _, _, _, _, _, e0, _, _, e3, e4, _⟩ := id hM.ex
    have hl : (intsV m.clock).length = m.clock.length := by simp [intsV]
    have hp : 1 ≤ m.clock.length := by
      simp only [macB, clockB, Bool.and_eq_true, decide_eq_true_eq] at hB
      exact hB.2.1.1
    refine ⟨_, rfl, _, rfl, o, dx, fs, rfl, e0, o, dx, fs, _, rfl, e0, e3, r_nil (r_lenT e4 ?_)⟩
    refine r_mod (by rw [hl]; omega) fun z _ _ ez => ?_
    have : z = ((n % m.clock.length : Nat) : Int) := by
      rw [ez, hl]
      simp
    rw [this]
    exact q _ (Go.refl _ _)
end
end Sd

namespace Sd
open PySem PySem.Spec PyProof.Rows L2 RZ RT
/-- where the i-th turn begins -/
def stF (ck : List Nat) : Nat → Nat
  | 0 => 0
  | i + 1 => stF ck i + ck.getD (i % ck.length) 0
def turnS (ck : List Nat) (ns : List Str) (j : Nat) : List Str := (ns.drop (stF ck j)).take (ck.getD (j % ck.length) 0)
/-- the turns of a run, as a list of tuples at t -/
structure TurnsAt (K : PySem.W.Frag) (H : Hp) (t : Addr) (ck : List Nat) (ns : List Str) (i : Nat) : Prop where
  ex : ∃ ts : List Addr, H t = some (.lst (ts.map V.ref)) ∧ ts.length = i ∧ ∀ (j : Nat) (a : Addr), ts[j]? = some a → SqT K H a ((turnS ck ns j).map V.str)
def spTurns (c : Wd) (C : Addr) : Sp := fun vs H Q _ => ∃ (o r : Addr) (m : Mac) (cs : List (List Nat)) (ns : List Str), vs = [.ref o, .ref r] ∧ MacAt c.K C H o m cs ∧ macB m = true ∧ SqT c.K H r (ns.map V.str) ∧ RunOk m ns ∧
  ∀ H' t i, H t = none → Go [] H H' → TurnsAt c.K H' t m.clock ns i → ns.length ≤ stF m.clock i → (i = 0 ∨ stF m.clock (i - 1) < ns.length) → Q (.ref t) H'
section
variable {c : Wd} {C : Addr}
abbrev s_turns_of : Stmt := topS 22
abbrev N_turns_of : List Str := ["machine", "run", "turns", "start", "ticks"]
abbrev P_turns_of : List Str := ["machine", "run"]
theorem sc_turns_of : FnScope N_turns_of P_turns_of (defScope s_turns_of) := ⟨rfl, rfl, rfl, by decide +kernel, rfl, by decide +kernel, by decide +kernel⟩
theorem ok_turns_of (F : At c "turns_of" "turns_of" s_turns_of P_turns_of) (B : Bi c) (D_Machine_clock : PrO c C "clock" 1 P_Machine_clock (spGet C "_clock")) (D_Machine_is_run : MtO c C "is_run" 3 P_Machine_is_run (spIsRun c C))
    (D_place_of : Ok c "place_of" 3 P_place_of (spPlace c C)) (nr : ("is_run" : Str) ∉ mNames) : Ok c "turns_of" 4 P_turns_of (spTurns c C) := by
  refine Ok.of F sc_turns_of (fun vs H Q E h => ?_) (fun f cdv A out s H vs Q E hr h => ?_)
  · obtain ⟨o, r, m, cs, ns, rfl, _⟩ := h
    rfl
  · obtain ⟨o, r, m, cs, ns, rfl, hM, hB, hs, hR, q⟩ := h
    have hu1 := hu_of hr
    refine ⟨_, (pss_cons (ps_if (pt_not (pt_val (pe_mtO D_Machine_is_run (hr.mono (by decide)) (pv 0) (pa_cons (pv 1) pa_nil)))) (pss_one ps_never) pss_nil)
    (pss_cons (ps_set (i := 2) sc_turns_of.nd rfl (by first | exact Or.inl rfl | exact Or.inr rfl) (pe_lst pa_nil))
    (pss_cons (ps_set (i := 3) sc_turns_of.nd rfl (by first | exact Or.inl rfl | exact Or.inr rfl) pe_int)
    (pss_cons (ps_while PassesOwn.never (pt_cmpR op_ltU (pv 3) (pe_callB (call_lenU (K := c.K)) (by rfl) B.len (by decide +kernel) (pa_cons (pv 1) pa_nil)) (nomark _)) (pss_cons (ps_set (i := 4) sc_turns_of.nd rfl (by first | exact Or.inl rfl | exact Or.inr rfl) (pe_ixU (K := c.K) hu1 (pe_prO D_Machine_clock (hr.mono (by decide)) (pv 0)) (pe_f D_place_of (hr.mono (by decide)) (by rfl) (pa_cons (pv 0) (pa_cons (pe_callB (call_lenU (K := c.K)) (by rfl) B.len (by decide +kernel) (pa_cons (pv 2) pa_nil)) pa_nil))) (fun _ _ => rfl) (fun _ _ => rfl)))
    (pss_cons (ps_expr (pe_bm PySem.F.plainAttrs_list PySem.F.slot_list_append PySem.F.type_list_append mt_append (pv 2) (pa_cons (pe_slice (sl_U (K := c.K)) (pv 1) (po_some (pv 3)) (po_some (pe_op (op_addU (K := c.K)) (pv 3) (pv 4)))) pa_nil)))
    (pss_one (ps_aug (i := 3) sc_turns_of.nd rfl (by first | exact Or.inl rfl | exact Or.inr rfl) (pv 4) ip_add)))))
    (pss_one (ps_ret (pv 2))))))), ?_⟩
    have hlen : (ns.map V.str).length = ns.length := by simp
    have hck : ∀ i, 1 ≤ m.clock.getD (i % m.clock.length) 0 ∧ m.clock[i % m.clock.length]? = some (m.clock.getD (i % m.clock.length) 0) := by
      simp only [macB, clockB, Bool.and_eq_true, decide_eq_true_eq, List.all_eq_true] at hB
      obtain ⟨_, ⟨c1, _, c3⟩, _⟩ := hB
      intro i
      have hi : i % m.clock.length < m.clock.length := Nat.mod_lt _ (by omega)
      rw [List.getD_eq_getElem?_getD, List.getElem?_eq_getElem hi]
      exact ⟨(c3 _ (List.getElem_mem hi)).1, rfl⟩
    obtain ⟨dx, fs, _, _, _, _, _, _, _, _, _, _, _, e0, _, _, _, _, _, _, _, _, _, _, _, _, _, _, _, _, _, _, _, _, _, _, e23⟩ := id hM.ex
    refine ⟨_, rfl, o, dx, fs, rfl, e0, e23 _ nr, _, rfl, o, r, m, cs, ns, rfl, hM, hB, hs, hR, fun H1 g1 => ⟨_, rfl, (if_neg (by simp)).mpr ?_⟩⟩
    dsimp only [tNext, tSeq, tAsg, tLst, tNil]
    refine ⟨Nat.zero_le _, fun t ft => ?_⟩
    have ft0 : H t = none := by
      cases e : H t with
      | none => rfl
      | some u => rw [g1.old t u (fun z => nomatch z) e] at ft; cases ft
    refine ⟨fun k σ H' => ∃ i, k = ns.length - stF m.clock i ∧ (i = 0 ∨ stF m.clock (i - 1) < ns.length) ∧ Go [] H H' ∧ TurnsAt c.K H' t m.clock ns i ∧ ∃ z, σ = [some (.ref o), some (.ref r), some (.ref t), some (.int ((stF m.clock i : Nat) : Int)), z], ?_, ?_⟩
    · refine ⟨_, 0, rfl, .inl rfl, g1.mut ft0, ⟨[], upd_same, rfl, fun j a h => by simp at h⟩, _, rfl⟩
    rintro k σ H2 ⟨i, rfl, hi, g2, hT, z, rfl⟩
    refine ⟨_, rfl, _, rfl, r_nil (r_lenT (g2.sqT hs) (r_ltI ⟨_, rfl, ?_⟩))⟩
    by_cases hlt : stF m.clock i < ns.length
    · obtain ⟨ts, hl1, hl2, hl3⟩ := hT.ex
      have hM2 := hM.go g2
      obtain ⟨dx2, fs2, _, a2, _, _, _, _, _, _, _, _, _, k0, _, _, k3, k4, _⟩ := id hM2.ex
      have hstep : stF m.clock (i + 1) = stF m.clock i + m.clock.getD (i % m.clock.length) 0 := rfl
      have hc := hck i
      refine (if_pos (by rw [hlen]; simpa using hlt)).mpr ⟨fun σ' H' => Go [] H H' ∧ TurnsAt c.K H' t m.clock ns (i + 1) ∧ ∃ z, σ' = [some (.ref o), some (.ref r), some (.ref t), some (.int ((stF m.clock (i + 1) : Nat) : Int)), z],
        fun σ' H' h' => ⟨ns.length - stF m.clock (i + 1), by omega, i + 1, rfl, .inr hlt, h'⟩, ?_⟩
      refine .inl ⟨_, rfl, o, dx2, fs2, rfl, k0, o, dx2, fs2, _, rfl, k0, k3, ⟨_, rfl, _, rfl, r_nil (r_lenL (SqL.of hl1) (r_nil ⟨o, m, cs, i, by simp [hl2], hM2, hB, fun H3 g3 => ?_⟩))⟩⟩
      refine ixT (i := i % m.clock.length) (g3.sqT k4) (v := .int ((m.clock.getD (i % m.clock.length) 0 : Nat) : Int)) (by rw [intsV, List.getElem?_map, hc.2]; rfl) ?_
      have l3 : H3 t = some (.lst (ts.map V.ref)) := g3.old t _ (fun z => nomatch z) hl1
      have tl : ts.length ≤ 1000 := by
        have : ∀ j, j ≤ stF m.clock j := by
          intro j
          induction j with
          | zero => exact Nat.zero_le _
          | succ j ih =>
            have := (hck j).1
            show j + 1 ≤ stF m.clock j + m.clock.getD (j % m.clock.length) 0
            omega
        have := this i
        have := hR.few
        omega
      refine ⟨_, rfl, .inl ⟨rfl, _, SqL.of l3⟩, _, rfl, _, rfl, _, rfl, _, rfl, _, rfl, r_addI ⟨_, rfl, r_slT ((g2.trans g3).sqT hs) fun b H4 g4 hb => r_nil ?_⟩⟩
      refine ⟨t, ts.map V.ref, .ref b, rfl, rfl, g4.old t _ (fun z => nomatch z) l3, by rw [List.length_map, sizeLine_eq]; omega, ?_⟩
      refine ⟨_, rfl, _, rfl, _, _, rfl, rfl, ?_⟩
      have l4 : H4 t = some (.lst (ts.map V.ref)) := g4.old t _ (fun z => nomatch z) l3
      have gp : Go [t] H4 (upd H4 t (.lst (ts.map V.ref ++ [.ref b]))) := Go.put l4 rfl (List.Mem.head _)
      have ec : ((stF m.clock i : Nat) : Int) + ((m.clock.getD (i % m.clock.length) 0 : Nat) : Int) = ((stF m.clock (i + 1) : Nat) : Int) := by
        rw [hstep]
        exact (Int.natCast_add _ _).symm
      refine ⟨((g2.trans g3).trans g4).mut ft0, ⟨ts ++ [b], by rw [List.map_append]; exact upd_same, by simp [hl2], fun j a hj => ?_⟩, some (.int ((m.clock.getD (i % m.clock.length) 0 : Nat) : Int)), ?_⟩
      · by_cases hjl : j < ts.length
        · rw [List.getElem?_append_left hjl] at hj
          exact gp.sqT (g4.sqT (g3.sqT (hl3 j a hj)))
        · have hj2 : j = ts.length := by
            have := (List.getElem?_eq_some_iff.mp hj).1
            simp at this
            omega
          subst hj2
          have hba : b = a := by simpa using hj
          subst hba
          rw [ec] at hb
          have hcut : cutV (ns.map V.str) (some ((stF m.clock i : Nat) : Int)) (some ((stF m.clock (i + 1) : Nat) : Int)) = (turnS m.clock ns ts.length).map V.str := by
            rw [hl2, cut_in, List.drop_take, turnS, List.map_take, List.map_drop]
            congr 1
            omega
          rw [hcut] at hb
          exact gp.sqT hb
      · show [_, _, _, some (V.int (((stF m.clock i : Nat) : Int) + ((m.clock.getD (i % m.clock.length) 0 : Nat) : Int))), _] = _
        rw [ec]
    · refine (if_neg (by rw [hlen]; simpa using Nat.le_of_not_lt hlt)).mpr ?_
      exact ⟨_, rfl, q H2 t i ft0 g2 hT (by omega) hi⟩
end
end Sd

namespace Sd
open PySem PySem.Spec PyProof.Rows L2 RZ RT
/-- right pages to watch -/
def watB (ps fs : List Str) : Bool := namesB fs && (decide (fs.length ≤ 1000) && fs.all fun f => decide (f ∈ ps))
def spPagesOf (c : Wd) (C : Addr) : Sp := fun vs H Q _ => ∃ (o b : Addr) (m : Mac) (cs : List (List Nat)) (fs : List Str), vs = [.ref o, .ref b] ∧ MacAt c.K C H o m cs ∧ SqT c.K H b (fs.map V.str) ∧ watB m.pages fs = true ∧ ∀ H', Go [] H H' → Q (.bl true) H'
/-- for each watched page, whether it is among pages -/
def marksS (ws ps : List Str) : List Bool := ws.map fun w => decide (w ∈ ps)
def spMarks (c : Wd) : Sp := fun vs H Q _ => ∃ (a b : Addr) (ws ps : List Str), vs = [.ref a, .ref b] ∧ SqT c.K H a (ws.map V.str) ∧ SqT c.K H b (ps.map V.str) ∧ ws.length ≤ 1000 ∧ ∀ H' t, Go [] H H' → SqT c.K H' t ((marksS ws ps).map V.bl) → Q (.ref t) H'
section
variable {c : Wd} {C : Addr}
abbrev s_are_pages_of : Stmt := topS 20
abbrev N_are_pages_of : List Str := ["machine", "value", "page"]
abbrev P_are_pages_of : List Str := ["machine", "value"]
theorem sc_are_pages_of : FnScope N_are_pages_of P_are_pages_of (defScope s_are_pages_of) := ⟨rfl, rfl, rfl, by decide +kernel, rfl, by decide +kernel, by decide +kernel⟩
theorem ok_are_pages_of (F : At c "are_pages_of" "are_pages_of" s_are_pages_of P_are_pages_of) (B : Bi c) (D_Machine_pages : PrO c C "pages" 1 P_Machine_pages (spGet C "_pages")) (D_are_ascending_names : Ok c "are_ascending_names" 2 P_are_ascending_names (spB c szTs ascNames)) :
    Ok c "are_pages_of" 3 P_are_pages_of (spPagesOf c C) := by
  refine Ok.of F sc_are_pages_of (fun vs H Q E h => ?_) (fun f cdv A out s H vs Q E hr h => ?_)
  · obtain ⟨o, b, m, cs, fs, rfl, _⟩ := h
    rfl
  · obtain ⟨o, b, m, cs, fs, rfl, hM, hb, hB, q⟩ := h
    have hu5 := hr.u5
    simp only [watB, Bool.and_eq_true, decide_eq_true_eq, List.all_eq_true] at hB
    obtain ⟨b1, b2, b3⟩ := hB
    refine ⟨_, (pss_one (ps_ret (pe_and (pe_f D_are_ascending_names (hr.mono (by decide)) (by rfl) (pa_cons (pv 1) pa_nil)) (pe_one (pe_callB (call_allU (K := c.K) rfl) (by rfl) B.all (by decide +kernel) (pa_cons (pe_lc (own := [("page", 2)]) rfl sc_are_pages_of.nd (pi_seq (K := c.K) (pv 1)) (blkOk_by (N := N_are_pages_of) (sc := defScope s_are_pages_of) (by decide +kernel)) (fun _ _ _ _ _ => (pg_name (i := 2) sc_are_pages_of.nd rfl (by first | exact Or.inl rfl | exact Or.inr rfl))) (fun _ _ _ _ _ => pts_nil) (fun _ _ _ _ _ => (pe_cmpR (op_inU (K := c.K) hu5) (pv 2) (pe_prO D_Machine_pages (hr.mono (by decide)) (pv 0)) (by rfl)))) pa_nil)))))), ?_⟩
    refine ⟨_, rfl, _, namesD fs, rfl, dp_names hb, names_sz b1 (by omega), fun H1 g1 => ⟨_, rfl, ?_⟩⟩
    rw [ascNames_names b1]
    refine (if_pos rfl).mpr ?_
    have hb1 := g1.sqT hb
    have hlen : (fs.map V.str).length = fs.length := by simp
    have hM1 := hM.go g1
    refine .inl (.inr ⟨_, rfl, b, rfl, ⟨_, hb1⟩, fun D hD => ?_⟩)
    refine lc_map (walk_tup (xs := fs.map V.str)) [] (fun _ _ => True) (fun i y _ => ∃ w : Str, fs[i]? = some w ∧ y = .bl true) yk_at
      (by omega) hD (fun _ h => nomatch h) (fun H' g => g.sqT hb1) trivial (fun _ _ _ _ _ => trivial) (fun _ _ _ _ _ _ h => h) ?_ ?_
    · rintro i y H2 H3 Fin hi g2 g3 _ ⟨rfl, hx⟩ fin
      have hx' : ∃ p, fs[i]? = some p ∧ y = .str p := by
        simp only [List.getElem?_map] at hx
        cases h : fs[i]? with
        | none => simp [h] at hx
        | some p => exact ⟨p, rfl, by simpa [h] using hx.symm⟩
      obtain ⟨p, hp, rfl⟩ := hx'
      obtain ⟨dx, fds, _, _, a3, _, _, _, _, _, _, _, _, e0, _, _, _, _, e5, e6, _⟩ := (hM1.go g2).ex
      refine ⟨rfl, _, rfl, _, rfl, o, dx, fds, rfl, e0, o, dx, fds, _, rfl, e0, e5, r_inT e6 rfl (flat_strs _) ?_⟩
      have e : inV (.str p) (m.pages.map V.str) = true := by
        rw [inV_strs]
        exact decide_eq_true (b3 p (List.mem_of_getElem? hp))
      rw [e]
      exact fin _ _ (Go.refl _ _) trivial ⟨p, hp, rfl⟩
    · intro H2 ys g2 _ hD2 hl2 hr'
      have ey : ys = (fs.map fun _ => true).map V.bl := by
        rw [List.map_map]
        exact list_of (by omega) fun i y e => by obtain ⟨s, h, h'⟩ := hr' i y e; exact ⟨s, h, h'⟩
      subst ey
      refine r_nil (r_all (SqL.of hD2) ?_)
      have e1 : (fs.map fun _ => true).all id = true := by
        rw [List.all_map]
        exact List.all_eq_true.mpr fun _ _ => rfl
      rw [e1]
      exact q H2 (g1.trans g2)
abbrev s_marks_of : Stmt := topS 27
abbrev N_marks_of : List Str := ["watched", "pages", "page"]
abbrev P_marks_of : List Str := ["watched", "pages"]
theorem sc_marks_of : FnScope N_marks_of P_marks_of (defScope s_marks_of) := ⟨rfl, rfl, rfl, by decide +kernel, rfl, by decide +kernel, by decide +kernel⟩
theorem ok_marks_of (F : At c "marks_of" "marks_of" s_marks_of P_marks_of) (B : Bi c) : Ok c "marks_of" 1 P_marks_of (spMarks c) := by
  refine Ok.of F sc_marks_of (fun vs H Q E h => ?_) (fun f cdv A out s H vs Q E hr h => ?_)
  · obtain ⟨a, b, ws, ps, rfl, _⟩ := h
    rfl
  · obtain ⟨a, b, ws, ps, rfl, ha, hb, hl, q⟩ := h
    have hu5 := hr.u5
    have hlen : (ws.map V.str).length = ws.length := by simp
    refine ⟨_, (pss_one (ps_ret (pe_callTy (call_tupU (K := c.K)) (by rfl) B.tuple (by decide +kernel) (pa_cons (pe_lc (own := [("page", 2)]) rfl sc_marks_of.nd (pi_seq (K := c.K) (pv 0)) (blkOk_by (N := N_marks_of) (sc := defScope s_marks_of) (by decide +kernel)) (fun _ _ _ _ _ => (pg_name (i := 2) sc_marks_of.nd rfl (by first | exact Or.inl rfl | exact Or.inr rfl))) (fun _ _ _ _ _ => pts_nil) (fun _ _ _ _ _ => (pe_cmpR (op_inU (K := c.K) hu5) (pv 2) (pv 1) (by rfl)))) pa_nil)))), ?_⟩
    refine .inl (.inr ⟨_, rfl, a, rfl, ⟨_, ha⟩, fun D hD => ?_⟩)
    refine lc_map (walk_tup (xs := ws.map V.str)) [] (fun _ _ => True) (fun i y _ => ∃ w : Str, ws[i]? = some w ∧ y = .bl (decide (w ∈ ps))) yk_at
      (by omega) hD (fun _ h => nomatch h) (fun H' g => g.sqT ha) trivial (fun _ _ _ _ _ => trivial) (fun _ _ _ _ _ _ h => h) ?_ ?_
    · rintro i y H2 H3 Fin hi g2 g3 _ ⟨rfl, hx⟩ fin
      have hx' : ∃ p, ws[i]? = some p ∧ y = .str p := by
        simp only [List.getElem?_map] at hx
        cases h : ws[i]? with
        | none => simp [h] at hx
        | some p => exact ⟨p, rfl, by simpa [h] using hx.symm⟩
      obtain ⟨p, hp, rfl⟩ := hx'
      refine ⟨rfl, _, rfl, _, rfl, r_inT (g2.sqT hb) rfl (flat_strs _) ?_⟩
      rw [inV_strs]
      exact fin _ _ (Go.refl _ _) trivial ⟨p, hp, rfl⟩
    · intro H2 ys g2 _ hD2 hl2 hr'
      have ey : ys = (marksS ws ps).map V.bl := by
        unfold marksS
        rw [List.map_map]
        exact list_of (by omega) fun i y e => by obtain ⟨s, h, h'⟩ := hr' i y e; exact ⟨s, h, h'⟩
      subst ey
      exact r_nil ⟨D, _, rfl, .inl ⟨SqL.of hD2, fun t ft => q _ t (g2.trans (Go.new ft)) (.inl (.inl upd_same))⟩⟩
end
end Sd

namespace Sd
open PySem PySem.Spec PyProof.Rows L2 RZ RT
/-- a watch stands at w -/
structure WatAt (K : PySem.W.Frag) (H : Hp) (w : Addr) (ws : List (List Str)) : Prop where
  ex : ∃ as : List Addr, SqT K H w (as.map V.ref) ∧ as.length = ws.length ∧ ∀ (j : Nat) (a : Addr) (fs : List Str), as[j]? = some a → ws[j]? = some fs → SqT K H a (fs.map V.str)
theorem WatAt.go {K : PySem.W.Frag} {M : List Addr} {H H' : Hp} {w : Addr} {ws : List (List Str)} (h : WatAt K H w ws) (g : Go M H H') : WatAt K H' w ws := by
  obtain ⟨as, h1, h2, h3⟩ := h.ex
  exact ⟨as, g.sqT h1, h2, fun j a fs e1 e2 => g.sqT (h3 j a fs e1 e2)⟩
/-- data of the tuples at those addresses -/
theorem dpA_refs {K : PySem.W.Frag} {H : Hp} : ∀ (as : List Addr) (ws : List (List Str)), as.length = ws.length → (∀ (j : Nat) (a : Addr) (fs : List Str), as[j]? = some a → ws[j]? = some fs → SqT K H a (fs.map V.str)) → DpAll K H (as.map V.ref) (ws.map namesD)
  | [], [], _, _ => .nil
  | a :: as, w :: ws, h, k => .cons (dp_names (k 0 a w rfl rfl)) (dpA_refs as ws (by simpa using h) fun j a' f e1 e2 => k (j + 1) a' f e1 e2)
  | [], _ :: _, h, _ => by simp at h
  | _ :: _, [], h, _ => by simp at h
def watchB (m : Mac) (ws : List (List Str)) : Bool := decide (ws.length = m.clock.length) && ws.all (watB m.pages)
def spIsWatch (c : Wd) (C : Addr) (res : V) : Sp := fun vs H Q _ => ∃ (o w : Addr) (m : Mac) (cs : List (List Nat)) (ws : List (List Str)), vs = [.ref o, .ref w] ∧ MacAt c.K C H o m cs ∧ macB m = true ∧ WatAt c.K H w ws ∧ watchB m ws = true ∧ ∀ H', Go [] H H' → Q res H'
section
variable {c : Wd} {C : Addr}
abbrev s_is_watch : Stmt := topS 24
abbrev N_is_watch : List Str := ["machine", "value", "watched"]
abbrev P_is_watch : List Str := ["machine", "value"]
theorem sc_is_watch : FnScope N_is_watch P_is_watch (defScope s_is_watch) := ⟨rfl, rfl, rfl, by decide +kernel, rfl, by decide +kernel, by decide +kernel⟩
theorem ok_is_watch (F : At c "is_watch" "is_watch" s_is_watch P_is_watch) (B : Bi c) (D_Machine_clock : PrO c C "clock" 1 P_Machine_clock (spGet C "_clock")) (D_are_pages_of : Ok c "are_pages_of" 3 P_are_pages_of (spPagesOf c C)) :
    Ok c "is_watch" 4 P_is_watch (spIsWatch c C (.bl true)) := by
  refine Ok.of F sc_is_watch (fun vs H Q E h => ?_) (fun f cdv A out s H vs Q E hr h => ?_)
  · obtain ⟨o, w, m, cs, ws, rfl, _⟩ := h
    rfl
  · obtain ⟨o, w, m, cs, ws, rfl, hM, hB, hW, hwB, q⟩ := h
    have hu1 := hu_of hr
    have hu := hr.units
    have hu5 := hr.u5
    simp only [watchB, Bool.and_eq_true, decide_eq_true_eq, List.all_eq_true] at hwB
    obtain ⟨wl, wb⟩ := hwB
    have cl : m.clock.length ≤ 3 := by
      simp only [macB, clockB, Bool.and_eq_true, decide_eq_true_eq] at hB
      exact hB.2.1.2.1
    obtain ⟨as, h1, h2, h3⟩ := hW.ex
    obtain ⟨dx, fds, _, a2, _, _, _, _, _, _, _, _, _, e0, _, _, e3, e4, _⟩ := id hM.ex
    have hlen : (as.map V.ref).length = as.length := by simp
    have hck : (intsV m.clock).length = m.clock.length := by simp [intsV]
    refine ⟨_, (pss_cons (ps_if (PW.pt (pw_or (pt_not (pt_val (pe_callB (call_isiU (K := c.K)) (by rfl) B.isinstance (by decide +kernel) (pa_cons (pv 1) (pa_cons (pe_ty "tuple" "tuple" (by rfl) B.tuple (by decide +kernel)) pa_nil))))) (pw_or1 (pt_cmpR (op_neU (K := c.K) hu) (pe_callB (call_lenU (K := c.K)) (by rfl) B.len (by decide +kernel) (pa_cons (pv 1) pa_nil)) (pe_callB (call_lenU (K := c.K)) (by rfl) B.len (by decide +kernel) (pa_cons (pe_prO D_Machine_clock (hr.mono (by decide)) (pv 0)) pa_nil)) (nomark _))))) (pss_one (ps_ret pe_bl)) pss_nil)
    (pss_one (ps_ret (pe_callB (call_allU (K := c.K) rfl) (by rfl) B.all (by decide +kernel) (pa_cons (pe_lc (own := [("watched", 2)]) rfl sc_is_watch.nd (pi_seq (K := c.K) (pv 1)) (blkOk_by (N := N_is_watch) (sc := defScope s_is_watch) (by decide +kernel)) (fun _ _ _ _ _ => (pg_name (i := 2) sc_is_watch.nd rfl (by first | exact Or.inl rfl | exact Or.inr rfl))) (fun _ _ _ _ _ => pts_nil) (fun _ _ _ _ _ => (pe_f D_are_pages_of (hr.mono (by decide)) (by rfl) (pa_cons (pv 0) (pa_cons (pv 2) pa_nil))))) pa_nil))))), ?_⟩
    refine ⟨_, rfl, r_c (r_nil (r_isTup (.tup h1 (dpA_refs as ws h2 h3)) ⟨_, rfl, ?_⟩))⟩
    refine (if_neg (by simp [isTup])).mpr ?_
    refine ⟨_, rfl, r_nil (r_lenT h1 ⟨_, rfl, o, dx, fds, rfl, e0, o, dx, fds, _, rfl, e0, e3, r_nil (r_lenT e4 (.inl ⟨rfl, _, rfl, ?_⟩))⟩)⟩
    have en : V.int ((as.map V.ref).length : Nat) = V.int ((intsV m.clock).length : Nat) := by rw [hlen, hck, h2, wl]
    refine (if_neg (by rw [decide_eq_true en]; simp)).mpr ?_
    refine .inl (.inr ⟨_, rfl, w, rfl, ⟨_, h1⟩, fun D hD => ?_⟩)
    refine lc_map (walk_tup (xs := as.map V.ref)) [] (fun _ _ => True) (fun i y _ => ∃ a : Addr, as[i]? = some a ∧ y = .bl true) yk_at
      (by omega) hD (fun _ h => nomatch h) (fun H' g => g.sqT h1) trivial (fun _ _ _ _ _ => trivial) (fun _ _ _ _ _ _ h => h) ?_ ?_
    · rintro i y H2 H3 Fin hi g2 g3 _ ⟨rfl, hx⟩ fin
      have hx' : ∃ a, as[i]? = some a ∧ y = .ref a := by
        simp only [List.getElem?_map] at hx
        cases h : as[i]? with
        | none => simp [h] at hx
        | some p => exact ⟨p, rfl, by simpa [h] using hx.symm⟩
      obtain ⟨a, ha, rfl⟩ := hx'
      have hil := (List.getElem?_eq_some_iff.mp ha).1
      obtain ⟨fs, hfs⟩ : ∃ fs, ws[i]? = some fs := ⟨_, List.getElem?_eq_getElem (by omega)⟩
      refine ⟨rfl, _, rfl, _, rfl, ?_⟩
      exact ⟨o, a, m, cs, fs, rfl, hM.go g2, g2.sqT (h3 i a fs ha hfs), wb fs (List.mem_of_getElem? hfs), fun H' g => fin _ _ g trivial ⟨a, ha, rfl⟩⟩
    · intro H2 ys g2 _ hD2 hl2 hr'
      have ey : ys = (as.map fun _ => true).map V.bl := by
        rw [List.map_map]
        exact list_of (by omega) fun i y e => by obtain ⟨s, h, h'⟩ := hr' i y e; exact ⟨s, h, h'⟩
      subst ey
      refine r_nil (r_all (SqL.of hD2) ?_)
      have e1 : (as.map fun _ => true).all id = true := by
        rw [List.all_map]
        exact List.all_eq_true.mpr fun _ _ => rfl
      rw [e1]
      exact q H2 g2
abbrev s_check_watch : Stmt := topS 25
abbrev N_check_watch : List Str := ["machine", "watch"]
abbrev P_check_watch : List Str := ["machine", "watch"]
theorem sc_check_watch : FnScope N_check_watch P_check_watch (defScope s_check_watch) := ⟨rfl, rfl, rfl, by decide +kernel, rfl, by decide +kernel, by decide +kernel⟩
theorem ok_check_watch (F : At c "check_watch" "check_watch" s_check_watch P_check_watch) (D_is_watch : Ok c "is_watch" 4 P_is_watch (spIsWatch c C (.bl true))) : Ok c "check_watch" 5 P_check_watch (spIsWatch c C .non) := by
  refine Ok.of F sc_check_watch (fun vs H Q E h => ?_) (fun f cdv A out s H vs Q E hr h => ?_)
  · obtain ⟨o, w, m, cs, ws, rfl, _⟩ := h
    rfl
  · obtain ⟨o, w, m, cs, ws, rfl, hM, hB, hW, hwB, q⟩ := h
    refine ⟨_, (pss_one (ps_if (pt_not (pt_val (pe_f D_is_watch (hr.mono (by decide)) (by rfl) (pa_cons (pv 0) (pa_cons (pv 1) pa_nil))))) (pss_one ps_never) pss_nil)), ?_⟩
    exact ⟨_, rfl, _, rfl, o, w, m, cs, ws, rfl, hM, hB, hW, hwB, fun H1 g1 => ⟨_, rfl, (if_neg (by simp)).mpr (q H1 g1)⟩⟩
end
end Sd

namespace Sd
open PySem PySem.Spec PyProof.Rows L2 RZ RT
theorem range_getD (xs : List Str) : (List.range xs.length).map (fun i => xs.getD i Str.empty) = xs := by
  apply List.ext_getElem?
  intro i
  rw [List.getElem?_map]
  by_cases h : i < xs.length
  · rw [List.getElem?_range h, List.getElem?_eq_getElem h]
    simp [List.getD_eq_getElem?_getD, h]
  · rw [List.getElem?_eq_none (by simpa using Nat.le_of_not_lt h), List.getElem?_eq_none (Nat.le_of_not_lt h)]
    rfl
theorem filt_range (xs : List Str) (p : Str → Bool) : ((List.range xs.length).filter fun i => p (xs.getD i Str.empty)).map (fun i => xs.getD i Str.empty) = xs.filter p := by
  have := List.filter_map (f := fun i => xs.getD i Str.empty) (p := p) (l := List.range xs.length)
  rw [range_getD] at this
  exact this.symm
/-- what a filter over texts has met -/
theorem filt_list {xs : List Str} {p : Str → Bool} {ys : List V} (hl : ys.length = ((List.range xs.length).filter fun i => p (xs.getD i Str.empty)).length)
    (h : ∀ (k : Nat) (y : V) (i : Nat), ys[k]? = some y → ((List.range xs.length).filter fun i => p (xs.getD i Str.empty))[k]? = some i → y = .str (xs.getD i Str.empty)) : ys = (xs.filter p).map V.str := by
  rw [← filt_range, List.map_map]
  apply List.ext_getElem?
  intro k
  by_cases hk : k < ys.length
  · obtain ⟨i, hi⟩ : ∃ i, ((List.range xs.length).filter fun i => p (xs.getD i Str.empty))[k]? = some i := ⟨_, List.getElem?_eq_getElem (by omega)⟩
    rw [List.getElem?_map, hi, List.getElem?_eq_getElem hk]
    exact congrArg some (h k _ i (List.getElem?_eq_getElem hk) hi)
  · rw [List.getElem?_eq_none (Nat.le_of_not_lt hk), List.getElem?_eq_none (by rw [List.length_map]; omega)]
/-- the pages that are not watched -/
def spWithout (c : Wd) : Sp := fun vs H Q _ => ∃ (a b : Addr) (ws ps : List Str), vs = [.ref a, .ref b] ∧ SqT c.K H a (ws.map V.str) ∧ SqT c.K H b (ps.map V.str) ∧ ps.length ≤ 1000 ∧ ∀ H' t, Go [] H H' → SqT c.K H' t ((ps.filter fun p => decide (p ∉ ws)).map V.str) → Q (.ref t) H'
section
variable {c : Wd} {C : Addr}
abbrev s_without_seen : Stmt := topS 28
abbrev N_without_seen : List Str := ["watched", "pages", "page"]
abbrev P_without_seen : List Str := ["watched", "pages"]
theorem sc_without_seen : FnScope N_without_seen P_without_seen (defScope s_without_seen) := ⟨rfl, rfl, rfl, by decide +kernel, rfl, by decide +kernel, by decide +kernel⟩
theorem ok_without_seen (F : At c "without_seen" "without_seen" s_without_seen P_without_seen) (B : Bi c) : Ok c "without_seen" 1 P_without_seen (spWithout c) := by
  refine Ok.of F sc_without_seen (fun vs H Q E h => ?_) (fun f cdv A out s H vs Q E hr h => ?_)
  · obtain ⟨a, b, ws, ps, rfl, _⟩ := h
    rfl
  · obtain ⟨a, b, ws, ps, rfl, ha, hb, hl, q⟩ := h
    have hu5 := hr.u5
    have hlen : (ps.map V.str).length = ps.length := by simp
    refine ⟨_, (pss_one (ps_ret (pe_callTy (call_tupU (K := c.K)) (by rfl) B.tuple (by decide +kernel) (pa_cons (pe_lc (own := [("page", 2)]) rfl sc_without_seen.nd (pi_seq (K := c.K) (pv 1)) (blkOk_by (N := N_without_seen) (sc := defScope s_without_seen) (by decide +kernel)) (fun _ _ _ _ _ => (pg_name (i := 2) sc_without_seen.nd rfl (by first | exact Or.inl rfl | exact Or.inr rfl))) (fun _ _ _ _ _ => pts_one (pt_cmpR (op_niU (K := c.K) hu5) (pv 2) (pv 0) (by rfl))) (fun _ _ _ _ _ => (pv 2))) pa_nil)))), ?_⟩
    refine .inl (.inr ⟨_, rfl, b, rfl, ⟨_, hb⟩, fun D hD => ?_⟩)
    refine lc_fil (walk_tup (xs := ps.map V.str)) [] (fun _ _ => True) (fun i y _ => y = .str (ps.getD i Str.empty)) (fun i => decide (ps.getD i Str.empty ∉ ws)) yk_at
      (by omega) hD (fun _ h => nomatch h) (fun H' g => g.sqT hb) trivial (fun _ _ _ _ _ => trivial) (fun _ _ _ _ _ _ h => h) ?_ ?_
    · rintro i y H2 H3 Fin Skip hi g2 g3 _ ⟨rfl, hx⟩ fin skip
      have hx' : y = .str (ps.getD i Str.empty) := by
        simp only [List.getElem?_map] at hx
        cases h : ps[i]? with
        | none => simp [h] at hx
        | some p => rw [List.getD_eq_getElem?_getD, h]; simpa [h] using hx.symm
      subst hx'
      refine ⟨rfl, _, rfl, _, rfl, r_niT (g2.sqT ha) rfl (flat_strs _) ?_⟩
      rw [inV_strs]
      refine ⟨_, rfl, ?_⟩
      by_cases hw : ps.getD i Str.empty ∈ ws
      · exact (if_neg (by simp only [decide_eq_true hw]; decide)).mpr (skip _ (decide_eq_false (fun z => z hw)) (Go.refl _ _) trivial)
      · exact (if_pos (by simp only [decide_eq_false hw]; decide)).mpr ⟨_, rfl, fin _ _ (decide_eq_true hw) (Go.refl _ _) trivial rfl⟩
    · intro H2 ys g2 _ hD2 hl2 hr'
      rw [hlen] at hl2 hr'
      have ey := filt_list (p := fun p => decide (p ∉ ws)) hl2 (fun k y i e1 e2 => hr' k y i e1 e2)
      subst ey
      exact r_nil ⟨D, _, rfl, .inl ⟨SqL.of hD2, fun t ft => q _ t (g2.trans (Go.new ft)) (.inl (.inl upd_same))⟩⟩
end
end Sd

namespace Sd
open PySem PySem.Spec PyProof.Rows L2 RZ RT
theorem inV_pgs (p : Str) (gs : List (Option Str)) : inV (.str p) (gs.map pgV) = decide (some p ∈ gs) := by
  induction gs with
  | nil => rfl
  | cons g gs ih =>
    show (eqV (pgV g) (.str p) || inV (.str p) (gs.map pgV)) = _
    rw [ih]
    cases g with
    | none =>
      show (false || decide (some p ∈ gs)) = _
      simp
    | some q =>
      show ((q == p) || decide (some p ∈ gs)) = _
      by_cases h : q = p
      · subst h; simp
      · have h2 : ¬ p = q := fun e => h e.symm
        simp [h, h2]
theorem flat_pgs (gs : List (Option Str)) : (gs.map pgV).all flatV = true := by
  rw [List.all_map]
  refine List.all_eq_true.mpr fun g _ => ?_
  cases g <;> rfl
/-- the pages seen so far with those that a turn's steps touch -/
def withS (m : Mac) (ps : List Str) (ss : List Stp) : List Str := m.pages.filter fun p => decide (p ∈ ps) || decide (some p ∈ ss.map Stp.page)
def spWith (c : Wd) (C : Addr) : Sp := fun vs H Q _ => ∃ (o a b : Addr) (m : Mac) (cs : List (List Nat)) (ps : List Str) (ss : List Stp), vs = [.ref o, .ref a, .ref b] ∧ MacAt c.K C H o m cs ∧ macB m = true ∧ SqT c.K H a (ps.map V.str) ∧ SqT c.K H b ((ss.map Stp.name).map V.str) ∧ ss.length ≤ 1000 ∧
  (∀ s ∈ ss, ∃ i : Nat, m.steps[i]? = some s) ∧ ∀ H' t, Go [] H H' → SqT c.K H' t ((withS m ps ss).map V.str) → Q (.ref t) H'
section
variable {c : Wd} {C : Addr}
abbrev s_with_touches : Stmt := topS 26
abbrev N_with_touches : List Str := ["machine", "pages", "names", "touched", "name", "page"]
abbrev P_with_touches : List Str := ["machine", "pages", "names"]
theorem sc_with_touches : FnScope N_with_touches P_with_touches (defScope s_with_touches) := ⟨rfl, rfl, rfl, by decide +kernel, rfl, by decide +kernel, by decide +kernel⟩
theorem ok_with_touches (F : At c "with_touches" "with_touches" s_with_touches P_with_touches) (B : Bi c) (D_Machine_pages : PrO c C "pages" 1 P_Machine_pages (spGet C "_pages")) (D_Machine_page : MtO c C "page" 2 P_Machine_page (spPage c C)) (nr : ("page" : Str) ∉ mNames) : Ok c "with_touches" 3 P_with_touches (spWith c C) := by
  refine Ok.of F sc_with_touches (fun vs H Q E h => ?_) (fun f cdv A out s H vs Q E hr h => ?_)
  · obtain ⟨o, a, b, m, cs, ps, ss, rfl, _⟩ := h
    rfl
  · obtain ⟨o, a, b, m, cs, ps, ss, rfl, hM, hB, ha, hb, hl, hss, q⟩ := h
    have hu5 := hr.u5
    have hlen : ((ss.map Stp.name).map V.str).length = ss.length := by simp
    have hpl : m.pages.length ≤ 4 := by
      simp only [macB, pagesB, Bool.and_eq_true, decide_eq_true_eq] at hB
      exact hB.2.2.1.2.2.1
    refine ⟨_, (pss_cons (ps_set (i := 3) sc_with_touches.nd rfl (by first | exact Or.inl rfl | exact Or.inr rfl) (pe_lc (own := [("name", 4)]) rfl sc_with_touches.nd (pi_seq (K := c.K) (pv 2)) (blkOk_by (N := N_with_touches) (sc := defScope s_with_touches) (by decide +kernel)) (fun _ _ _ _ _ => (pg_name (i := 4) sc_with_touches.nd rfl (by first | exact Or.inl rfl | exact Or.inr rfl))) (fun _ _ _ _ _ => pts_nil) (fun _ _ _ _ _ => (pe_mtO D_Machine_page (hr.mono (by decide)) (pv 0) (pa_cons (pv 4) pa_nil)))))
    (pss_one (ps_ret (pe_callTy (call_tupU (K := c.K)) (by rfl) B.tuple (by decide +kernel) (pa_cons (pe_lc (own := [("page", 5)]) rfl sc_with_touches.nd (pi_seq (K := c.K) (pe_prO D_Machine_pages (hr.mono (by decide)) (pv 0))) (blkOk_by (N := N_with_touches) (sc := defScope s_with_touches) (by decide +kernel)) (fun _ _ _ _ _ => (pg_name (i := 5) sc_with_touches.nd rfl (by first | exact Or.inl rfl | exact Or.inr rfl))) (fun _ _ _ _ _ => pts_one (PW.pt (pw_or (pt_cmpR (op_inU (K := c.K) hu5) (pv 5) (pv 1) (by rfl)) (pw_or1 (pt_cmpR (op_inU (K := c.K) hu5) (pv 5) (pv 3) (by rfl)))))) (fun _ _ _ _ _ => (pv 5))) pa_nil))))), ?_⟩
    refine .inl (.inr ⟨_, rfl, b, rfl, ⟨_, hb⟩, fun D hD => ?_⟩)
    refine lc_map (walk_tup (xs := (ss.map Stp.name).map V.str)) [] (fun _ _ => True) (fun i y _ => ∃ s : Stp, ss[i]? = some s ∧ y = pgV s.page) yk_at
      (by omega) hD (fun _ h => nomatch h) (fun H' g => g.sqT hb) trivial (fun _ _ _ _ _ => trivial) (fun _ _ _ _ _ _ h => h) ?_ ?_
    · rintro i y H2 H3 Fin hi g2 g3 _ ⟨rfl, hx⟩ fin
      obtain ⟨st, hst⟩ : ∃ s, ss[i]? = some s := ⟨_, List.getElem?_eq_getElem (by omega)⟩
      have hy : y = .str st.name := by
        rw [List.getElem?_map, List.getElem?_map, hst] at hx
        simpa using hx.symm
      subst hy
      obtain ⟨k, hk⟩ := hss st (List.mem_of_getElem? hst)
      have hM2 := hM.go g2
      obtain ⟨dx, fs, _, _, _, _, _, _, _, _, _, _, _, e0, _, _, _, _, _, _, _, _, _, _, _, _, _, _, _, _, _, _, _, _, _, _, e23⟩ := id hM2.ex
      refine ⟨rfl, _, rfl, o, dx, fs, rfl, e0, e23 _ nr, _, rfl, ?_⟩
      exact ⟨o, m, cs, k, st, rfl, hM2, hB, hk, fun H' g => fin _ _ g trivial ⟨st, hst, rfl⟩⟩
    intro H1 ys g1 _ hD1 hl1 hr1
    have ey : ys = (ss.map Stp.page).map pgV := by
      rw [List.map_map]
      exact list_of (by omega) fun i y e => by obtain ⟨s, h, h'⟩ := hr1 i y e; exact ⟨s, h, h'⟩
    subst ey
    have hM1 := hM.go g1
    obtain ⟨dx, fs, _, _, a3, _, _, _, _, _, _, _, _, e0, _, _, _, _, e5, e6, _⟩ := id hM1.ex
    have hlp : (m.pages.map V.str).length = m.pages.length := by simp
    refine .inl (.inr ⟨_, rfl, o, dx, fs, rfl, e0, o, dx, fs, _, rfl, e0, e5, a3, rfl, ⟨_, e6⟩, fun D2 hD2 => ?_⟩)
    refine lc_fil (walk_tup (xs := m.pages.map V.str)) [] (fun _ _ => True) (fun i y _ => y = .str (m.pages.getD i Str.empty)) (fun i => decide (m.pages.getD i Str.empty ∈ ps) || decide (some (m.pages.getD i Str.empty) ∈ ss.map Stp.page)) yk_at
      (by omega) hD2 (fun _ h => nomatch h) (fun H' g => g.sqT e6) trivial (fun _ _ _ _ _ => trivial) (fun _ _ _ _ _ _ h => h) ?_ ?_
    · rintro i y H2 H3 Fin Skip hi g2 g3 _ ⟨rfl, hx⟩ fin skip
      have hx' : y = .str (m.pages.getD i Str.empty) := by
        simp only [List.getElem?_map] at hx
        cases h : m.pages[i]? with
        | none => simp [h] at hx
        | some p => rw [List.getD_eq_getElem?_getD, h]; simpa [h] using hx.symm
      subst hx'
      refine ⟨rfl, _, rfl, _, rfl, r_inT (g2.sqT (g1.sqT ha)) rfl (flat_strs _) ⟨_, rfl, ?_⟩⟩
      rw [inV_strs]
      by_cases hw : m.pages.getD i Str.empty ∈ ps
      · refine (if_pos (decide_eq_true hw)).mpr ((if_pos rfl).mpr ⟨_, rfl, fin _ _ ?_ (Go.refl _ _) trivial rfl⟩)
        rw [decide_eq_true hw, Bool.true_or]
      · refine (if_neg (by rw [decide_eq_false hw]; simp)).mpr ?_
        refine ⟨_, rfl, _, rfl, r_inL (g2.sqL (SqL.of hD1)) rfl (flat_pgs _) ⟨_, rfl, ?_⟩⟩
        rw [inV_pgs]
        by_cases hv : some (m.pages.getD i Str.empty) ∈ ss.map Stp.page
        · refine (if_pos (decide_eq_true hv)).mpr ⟨_, rfl, fin _ _ ?_ (Go.refl _ _) trivial rfl⟩
          rw [decide_eq_true hv, Bool.or_true]
        · refine (if_neg (by rw [decide_eq_false hv]; simp)).mpr (skip _ ?_ (Go.refl _ _) trivial)
          rw [decide_eq_false hw, decide_eq_false hv]
          rfl
    · intro H2 ys g2 _ hD3 hl2 hr'
      rw [hlp] at hl2 hr'
      have ey := filt_list (p := fun p => decide (p ∈ ps) || decide (some p ∈ ss.map Stp.page)) hl2 (fun k y i e1 e2 => hr' k y i e1 e2)
      subst ey
      exact r_nil ⟨D2, _, rfl, .inl ⟨SqL.of hD3, fun t ft => q _ t ((g1.trans g2).trans (Go.new ft)) (.inl (.inl upd_same))⟩⟩
end
end Sd

namespace Sd
open PySem PySem.Spec PyProof.Rows L2 RZ RT
/-- the pages of other that are not in one -/
def comeS (one other : List Str) : List Str := other.filter fun p => decide (p ∉ one)
def spMoving (c : Wd) (C : Addr) : Sp := fun vs H Q _ => ∃ (o a b : Addr) (m : Mac) (cs : List (List Nat)) (one other : List Str), vs = [.ref o, .ref a, .ref b] ∧ MacAt c.K C H o m cs ∧ macB m = true ∧ SqT c.K H a (one.map V.str) ∧ SqT c.K H b (other.map V.str) ∧ other.length ≤ 1000 ∧
  ∀ H', Go [] H H' → Q (.int ((m.move : Int) * ((comeS one other).length : Nat))) H'
section
variable {c : Wd} {C : Addr}
end
end Sd

namespace Sd
open PySem PySem.Spec PyProof.Rows L2 RZ RT
theorem range_get {α : Type} (d : α) (xs : List α) : (List.range xs.length).map (fun i => xs.getD i d) = xs := by
  apply List.ext_getElem?
  intro i
  rw [List.getElem?_map]
  by_cases h : i < xs.length
  · rw [List.getElem?_range h, List.getElem?_eq_getElem h]
    simp [List.getD_eq_getElem?_getD, h]
  · rw [List.getElem?_eq_none (by simpa using Nat.le_of_not_lt h), List.getElem?_eq_none (Nat.le_of_not_lt h)]
    rfl
theorem filt_len {α : Type} (d : α) (xs : List α) (p : α → Bool) : ((List.range xs.length).filter fun i => p (xs.getD i d)).length = (xs.filter p).length := by
  have := List.filter_map (f := fun i => xs.getD i d) (p := p) (l := List.range xs.length)
  rw [range_get] at this
  rw [this, List.length_map]
  rfl
def slowB (fs : List Str) : Option Str → Bool
  | none => false
  | some p => decide (p ∉ fs)
/-- the touches of a turn that are slow -/
def slowS (ss : List Stp) (fs : List Str) : Nat := ((ss.map Stp.page).filter (slowB fs)).length
def spSlow (c : Wd) (C : Addr) : Sp := fun vs H Q _ => ∃ (o a b : Addr) (m : Mac) (cs : List (List Nat)) (ss : List Stp) (fs : List Str), vs = [.ref o, .ref a, .ref b] ∧ MacAt c.K C H o m cs ∧ macB m = true ∧ SqT c.K H a ((ss.map Stp.name).map V.str) ∧ SqT c.K H b (fs.map V.str) ∧ ss.length ≤ 1000 ∧
  (∀ s ∈ ss, ∃ i : Nat, m.steps[i]? = some s) ∧ ∀ H', Go [] H H' → Q (.int (slowS ss fs : Nat)) H'
section
variable {c : Wd} {C : Addr}
end
end Sd

namespace Sd
open PySem PySem.Spec PyProof.Rows L2 RZ RT
/-- the steps of a turn -/
def tS (ck : List Nat) (ss : List Stp) (j : Nat) : List Stp := (ss.drop (stF ck j)).take (ck.getD (j % ck.length) 0)
theorem tS_names (ck : List Nat) (ss : List Stp) (j : Nat) : turnS ck (ss.map Stp.name) j = (tS ck ss j).map Stp.name := by
  simp [turnS, tS, List.map_take, List.map_drop]
/-- what is seen, and not, behind so many turns -/
def seenS (m : Mac) (ws : List (List Str)) (ss : List Stp) : Nat → List (List Bool) × List Str
  | 0 => ([], [])
  | i + 1 =>
    if (tS m.clock ss i).length = m.clock.getD (i % m.clock.length) 0 then
      ((seenS m ws ss i).1 ++ [marksS (ws.getD (i % m.clock.length) []) (withS m (seenS m ws ss i).2 (tS m.clock ss i))], (withS m (seenS m ws ss i).2 (tS m.clock ss i)).filter fun x => decide (x ∉ ws.getD (i % m.clock.length) []))
    else ((seenS m ws ss i).1, withS m (seenS m ws ss i).2 (tS m.clock ss i))
/-- tuples of marks at these addresses -/
def MksAt (K : PySem.W.Frag) (H : Hp) (as : List Addr) (bss : List (List Bool)) : Prop := as.length = bss.length ∧ ∀ (j : Nat) (x : Addr) (bs : List Bool), as[j]? = some x → bss[j]? = some bs → SqT K H x (bs.map V.bl)
theorem MksAt.go {K : PySem.W.Frag} {M : List Addr} {H H' : Hp} {as : List Addr} {bss : List (List Bool)} (h : MksAt K H as bss) (g : Go M H H') : MksAt K H' as bss := ⟨h.1, fun j x bs e1 e2 => g.sqT (h.2 j x bs e1 e2)⟩
theorem MksAt.snoc {K : PySem.W.Frag} {H : Hp} {as : List Addr} {bss : List (List Bool)} {b : Addr} {bs : List Bool} (h : MksAt K H as bss) (hb : SqT K H b (bs.map V.bl)) : MksAt K H (as ++ [b]) (bss ++ [bs]) := by
  refine ⟨by simp [h.1], fun j x cs e1 e2 => ?_⟩
  by_cases hj : j < as.length
  · rw [List.getElem?_append_left hj] at e1
    rw [List.getElem?_append_left (by rw [← h.1]; exact hj)] at e2
    exact h.2 j x cs e1 e2
  · have hj2 : j = as.length := by
      have := (List.getElem?_eq_some_iff.mp e1).1
      simp at this
      omega
    subst hj2
    have e1' : b = x := by simpa using e1
    rw [h.1] at e2
    have e2' : bs = cs := by simpa using e2
    subst e1' e2'
    exact hb
/-- a run of steps of a machine -/
def runOf (m : Mac) (ss : List Stp) : Prop := RunOk m (ss.map Stp.name) ∧ ∀ s ∈ ss, ∃ i : Nat, m.steps[i]? = some s
/-- so many turns a run has -/
def turnsIn (m : Mac) (ss : List Stp) (n : Nat) : Prop := ss.length ≤ stF m.clock n ∧ (n = 0 ∨ stF m.clock (n - 1) < ss.length)
def spSeenU (c : Wd) (C : Addr) : Sp := fun vs H Q _ => ∃ (o w r : Addr) (m : Mac) (cs : List (List Nat)) (ws : List (List Str)) (ss : List Stp), vs = [.ref o, .ref w, .ref r] ∧ MacAt c.K C H o m cs ∧ macB m = true ∧ WatAt c.K H w ws ∧ watchB m ws = true ∧
  SqT c.K H r ((ss.map Stp.name).map V.str) ∧ runOf m ss ∧
  ∀ H' t a b as n, Go [] H H' → SqT c.K H' t [.ref a, .ref b] → SqT c.K H' a (as.map V.ref) → MksAt c.K H' as (seenS m ws ss n).1 → SqT c.K H' b ((seenS m ws ss n).2.map V.str) → turnsIn m ss n → Q (.ref t) H'
theorem mem_tS {m : Mac} {ss : List Stp} {j : Nat} (h : ∀ s ∈ ss, ∃ i : Nat, m.steps[i]? = some s) : ∀ s ∈ tS m.clock ss j, ∃ i : Nat, m.steps[i]? = some s := fun s hs => h s (List.mem_of_mem_drop (List.mem_of_mem_take hs))
theorem len_tS (ck : List Nat) (ss : List Stp) (j : Nat) : (tS ck ss j).length ≤ ss.length := by
  unfold tS
  rw [List.length_take, List.length_drop]
  omega
theorem clk {m : Mac} (hB : macB m = true) (i : Nat) : i % m.clock.length < m.clock.length ∧ 1 ≤ m.clock.getD (i % m.clock.length) 0 ∧ m.clock[i % m.clock.length]? = some (m.clock.getD (i % m.clock.length) 0) := by
  simp only [macB, clockB, Bool.and_eq_true, decide_eq_true_eq, List.all_eq_true] at hB
  obtain ⟨_, ⟨c1, _, c3⟩, _⟩ := hB
  have hi : i % m.clock.length < m.clock.length := Nat.mod_lt _ (by omega)
  refine ⟨hi, ?_⟩
  rw [List.getD_eq_getElem?_getD, List.getElem?_eq_getElem hi]
  exact ⟨(c3 _ (List.getElem_mem hi)).1, rfl⟩
theorem stF_ge {m : Mac} (hB : macB m = true) (j : Nat) : j ≤ stF m.clock j := by
  induction j with
  | zero => exact Nat.zero_le _
  | succ j ih =>
    have := (clk hB j).2.1
    show j + 1 ≤ stF m.clock j + m.clock.getD (j % m.clock.length) 0
    omega
theorem seenS_few (m : Mac) (ws : List (List Str)) (ss : List Stp) (i : Nat) : (seenS m ws ss i).1.length ≤ i := by
  induction i with
  | zero => exact Nat.le_refl _
  | succ i ih =>
    unfold seenS
    split
    · simp
      exact ih
    · exact Nat.le_succ_of_le ih
section
variable {c : Wd} {C : Addr}
abbrev s_seen_and_unseen : Stmt := topS 29
abbrev N_seen_and_unseen : List Str := ["machine", "watch", "run", "found", "pages", "number", "turn", "place"]
abbrev P_seen_and_unseen : List Str := ["machine", "watch", "run"]
theorem sc_seen_and_unseen : FnScope N_seen_and_unseen P_seen_and_unseen (defScope s_seen_and_unseen) := ⟨rfl, rfl, rfl, by decide +kernel, rfl, by decide +kernel, by decide +kernel⟩
theorem ok_seen_and_unseen (F : At c "seen_and_unseen" "seen_and_unseen" s_seen_and_unseen P_seen_and_unseen) (B : Bi c) (D_Machine_clock : PrO c C "clock" 1 P_Machine_clock (spGet C "_clock"))
    (D_check_watch : Ok c "check_watch" 5 P_check_watch (spIsWatch c C .non)) (D_turns_of : Ok c "turns_of" 4 P_turns_of (spTurns c C)) (D_place_of : Ok c "place_of" 3 P_place_of (spPlace c C))
    (D_with_touches : Ok c "with_touches" 3 P_with_touches (spWith c C)) (D_marks_of : Ok c "marks_of" 1 P_marks_of (spMarks c)) (D_without_seen : Ok c "without_seen" 1 P_without_seen (spWithout c)) :
    Ok c "seen_and_unseen" 6 P_seen_and_unseen (spSeenU c C) := by
  refine Ok.of F sc_seen_and_unseen (fun vs H Q E h => ?_) (fun f cdv A out s H vs Q E hr h => ?_)
  · obtain ⟨o, w, r, m, cs, ws, ss, rfl, _⟩ := h
    rfl
  · obtain ⟨o, w, r, m, cs, ws, ss, rfl, hM, hB, hW, hwB, hs, ⟨hR, hss⟩, q⟩ := h
    have hu1 := hu_of hr
    have hu := hr.units
    have hu5 := hr.u5
    refine ⟨_, (pss_cons (ps_expr (pe_f D_check_watch (hr.mono (by decide)) (by rfl) (pa_cons (pv 0) (pa_cons (pv 1) pa_nil))))
    (pss_cons (ps_set (i := 3) sc_seen_and_unseen.nd rfl (by first | exact Or.inl rfl | exact Or.inr rfl) (pe_lst pa_nil))
    (pss_cons (ps_set (i := 4) sc_seen_and_unseen.nd rfl (by first | exact Or.inl rfl | exact Or.inr rfl) (pe_tup pa_nil))
    (pss_cons (ps_for PassesOwn.never rfl (pi_enumU (by rfl) B.enumerate (pa_cons (pe_f D_turns_of (hr.mono (by decide)) (by rfl) (pa_cons (pv 0) (pa_cons (pv 2) pa_nil))) pa_nil)) (pg_tupU (K := c.K) (n := 2) rfl (pgs_cons (pg_name (i := 5) sc_seen_and_unseen.nd rfl (by first | exact Or.inl rfl | exact Or.inr rfl)) (pgs_cons (pg_name (i := 6) sc_seen_and_unseen.nd rfl (by first | exact Or.inl rfl | exact Or.inr rfl)) pgs_nil))) (pss_cons (ps_set (i := 7) sc_seen_and_unseen.nd rfl (by first | exact Or.inl rfl | exact Or.inr rfl) (pe_f D_place_of (hr.mono (by decide)) (by rfl) (pa_cons (pv 0) (pa_cons (pv 5) pa_nil))))
    (pss_cons (ps_set (i := 4) sc_seen_and_unseen.nd rfl (by first | exact Or.inl rfl | exact Or.inr rfl) (pe_f D_with_touches (hr.mono (by decide)) (by rfl) (pa_cons (pv 0) (pa_cons (pv 4) (pa_cons (pv 6) pa_nil)))))
    (pss_one (ps_if (pt_cmpR (op_eqU (K := c.K) hu) (pe_callB (call_lenU (K := c.K)) (by rfl) B.len (by decide +kernel) (pa_cons (pv 6) pa_nil)) (pe_ixU (K := c.K) hu1 (pe_prO D_Machine_clock (hr.mono (by decide)) (pv 0)) (pv 7) (fun _ _ => rfl) (fun _ _ => rfl)) (nomark _)) (pss_cons (ps_expr (pe_bm PySem.F.plainAttrs_list PySem.F.slot_list_append PySem.F.type_list_append mt_append (pv 3) (pa_cons (pe_f D_marks_of (hr.mono (by decide)) (by rfl) (pa_cons (pe_ixU (K := c.K) hu1 (pv 1) (pv 7) (fun _ _ => rfl) (fun _ _ => rfl)) (pa_cons (pv 4) pa_nil))) pa_nil)))
    (pss_one (ps_set (i := 4) sc_seen_and_unseen.nd rfl (by first | exact Or.inl rfl | exact Or.inr rfl) (pe_f D_without_seen (hr.mono (by decide)) (by rfl) (pa_cons (pe_ixU (K := c.K) hu1 (pv 1) (pv 7) (fun _ _ => rfl) (fun _ _ => rfl)) (pa_cons (pv 4) pa_nil)))))) pss_nil)))))
    (pss_one (ps_ret (pe_tup (pa_cons (pe_callTy (call_tupU (K := c.K)) (by rfl) B.tuple (by decide +kernel) (pa_cons (pv 3) pa_nil)) (pa_cons (pv 4) pa_nil))))))))), ?_⟩
    refine ⟨_, rfl, _, rfl, o, w, m, cs, ws, rfl, hM, hB, hW, hwB, fun H1 g1 => ?_⟩
    dsimp only [tNext, tSeq, tAsg, tLst, tNil]
    refine ⟨Nat.zero_le _, fun t ft => ?_⟩
    have ft0 : H t = none := by
      cases e : H t with
      | none => rfl
      | some u => rw [g1.old t u (fun z => nomatch z) e] at ft; cases ft
    refine ⟨Nat.zero_le _, fun p0 fp0 => ?_⟩
    have ga : Go [t] H1 (upd H1 t (.lst [])) := (Go.new ft)
    have gb : Go [t] (upd H1 t (.lst [])) (upd (upd H1 t (.lst [])) p0 (.tup [])) := Go.new fp0
    have g0 := g1.mut (o := .lst []) ft0
    have gc := g0.trans (Go.new (o := .tup []) fp0)
    refine .inl ⟨_, rfl, _, rfl, o, r, m, cs, ss.map Stp.name, rfl, hM.go gc, hB, gc.sqT hs, hR, fun H2 tl n ftl g2 hT hn1 hn2 => ?_⟩
    obtain ⟨ts, hl1, hl2, hl3⟩ := hT.ex
    refine ⟨tl, ts.map V.ref, rfl, SqL.of hl1, ?_⟩
    have lt2 : H2 t = some (.lst []) := g2.old t _ (fun z => nomatch z) (by rw [upd_ne (ne_of_none upd_same fp0)]; exact upd_same)
    have htl : tl ≠ t := fun e => by
      rw [e] at ftl
      rw [upd_ne (ne_of_none upd_same fp0), upd_same] at ftl
      cases ftl
    have hlen : (ts.map V.ref).length = n := by simp [hl2]
    refine for_it (walk_enum (xs := ts.map V.ref)) (fun i σ H' => Go [t] H2 H' ∧ Go [] H H' ∧ ∃ (as : List Addr) (pa : Addr) (z5 z6 z7 : Option V), H' t = some (.lst (as.map V.ref)) ∧ MksAt c.K H' as (seenS m ws ss i).1 ∧ SqT c.K H' pa ((seenS m ws ss i).2.map V.str) ∧
      σ = [some (.ref o), some (.ref w), some (.ref r), some (.ref t), some (.ref pa), z5, z6, z7]) ?_ ?_ ?_ ?_
    · exact ⟨Go.refl _ _, gc.trans g2, [], p0, _, _, _, lt2, ⟨rfl, fun j x bs e => by simp at e⟩, g2.sqT (SqT.of upd_same), rfl⟩
    · rintro i σ H' hi ⟨ga2, _⟩
      exact SqL.of (ga2.old tl _ (by simpa using htl) hl1)
    · rintro i x σ H3 H4 hi ⟨ga3, g3, as, pa, z5, z6, z7, k1, k2, k3, rfl⟩ ⟨T, x1, x2, rfl, fT, rfl, hx1, hx2⟩
      cases hx1
      obtain ⟨ta, hta⟩ : ∃ a, ts[i]? = some a := ⟨_, List.getElem?_eq_getElem (by simpa using hi)⟩
      have hx2' : x2 = .ref ta := by
        have hx3 : (ts.map V.ref)[i]? = some x2 := hx2
        rw [List.getElem?_map, hta] at hx3
        simpa using hx3.symm
      subst hx2'
      have hta2 := hl3 i ta hta
      rw [tS_names] at hta2
      have g34 : Go [] H3 (upd H3 T (.tup [.int ((i : Nat) : Int), .ref ta])) := Go.new fT
      have hM4 := hM.go (g3.trans g34)
      refine ⟨T, _, rfl, SqT.of upd_same, rfl, ?_⟩
      refine ⟨_, _, rfl, _, _, rfl, rfl, ?_⟩
      refine ⟨_, rfl, _, rfl, o, m, cs, i, rfl, hM4, hB, fun H5 g45 => ?_⟩
      have hM5 := hM4.go g45
      have hsz := len_tS m.clock ss i
      have hfew := hR.few
      rw [List.length_map] at hfew
      have k35 := g45.sqT (g34.sqT k3)
      have hta5 := g45.sqT (g34.sqT (ga3.sqT hta2))
      refine ⟨_, rfl, _, rfl, _, rfl, o, pa, ta, m, cs, (seenS m ws ss i).2, tS m.clock ss i, rfl, hM5, hB, k35, hta5, by omega, mem_tS hss, fun H6 pb g56 hpb => ?_⟩
      obtain ⟨ck1, ck2, ck3⟩ := clk hB i
      have hM6 := hM5.go g56
      obtain ⟨dx, fs, _, a2, _, _, _, _, _, _, _, _, _, e0, _, _, e3, e4, _⟩ := id hM6.ex
      have hta6 := g56.sqT hta5
      have lta : (((tS m.clock ss i).map Stp.name).map V.str).length = (tS m.clock ss i).length := by simp
      refine ⟨_, rfl, r_nil (r_lenT hta6 (.inl ⟨_, rfl, o, dx, fs, rfl, e0, o, dx, fs, _, rfl, e0, e3, _, rfl, ixT (i := i % m.clock.length) e4 (v := .int ((m.clock.getD (i % m.clock.length) 0 : Nat) : Int)) (by rw [intsV, List.getElem?_map, ck3]; rfl) (.inl ⟨rfl, _, rfl, ?_⟩)⟩))⟩
      rw [lta]
      have g06 := g3.trans (g34.trans (g45.trans g56))
      have k16 := (g34.trans (g45.trans g56)).old t _ (fun z => nomatch z) k1
      have k26 := k2.go (g34.trans (g45.trans g56))
      have g26 := ga3.trans (g34.trans (g45.trans g56)).wide
      by_cases hc : (tS m.clock ss i).length = m.clock.getD (i % m.clock.length) 0
      · have es : seenS m ws ss (i + 1) = ((seenS m ws ss i).1 ++ [marksS (ws.getD (i % m.clock.length) []) (withS m (seenS m ws ss i).2 (tS m.clock ss i))], (withS m (seenS m ws ss i).2 (tS m.clock ss i)).filter fun x => decide (x ∉ ws.getD (i % m.clock.length) [])) := by
          conv => lhs; unfold seenS
          rw [if_pos hc]
        refine (if_pos (by rw [hc]; simp)).mpr ?_
        simp only [watchB, Bool.and_eq_true, decide_eq_true_eq, List.all_eq_true] at hwB
        obtain ⟨wl, wb⟩ := hwB
        obtain ⟨was, w1, w2, w3⟩ := (hW.go g06).ex
        obtain ⟨wa, hwa⟩ : ∃ a, was[i % m.clock.length]? = some a := ⟨_, List.getElem?_eq_getElem (by omega)⟩
        have hwf : ws[i % m.clock.length]? = some (ws.getD (i % m.clock.length) []) := by
          rw [List.getD_eq_getElem?_getD, List.getElem?_eq_getElem (by omega)]
          rfl
        have w4 := w3 _ _ _ hwa hwf
        have wfew : (ws.getD (i % m.clock.length) []).length ≤ 1000 := by
          have := wb _ (List.mem_of_getElem? hwf)
          simp only [watB, Bool.and_eq_true, decide_eq_true_eq] at this
          exact this.2.1
        have hwr : (was.map V.ref)[i % m.clock.length]? = some (.ref wa) := by rw [List.getElem?_map, hwa]; rfl
        have pfew : (withS m (seenS m ws ss i).2 (tS m.clock ss i)).length ≤ 1000 := by
          refine Nat.le_trans (List.length_filter_le _ _) ?_
          simp only [macB, pagesB, Bool.and_eq_true, decide_eq_true_eq] at hB
          have := hB.2.2.1.2.2.1
          omega
        refine ⟨_, rfl, .inl ⟨rfl, _, SqL.of k16⟩, .inl ⟨_, rfl, _, rfl, ixT w1 hwr ⟨_, rfl, wa, pb, _, _, rfl, w4, hpb, wfew, fun H7 tm g67 hm => r_nil ?_⟩⟩⟩
        have k17 := g67.old t _ (fun z => nomatch z) k16
        have hal : as.length ≤ 1000 := by
          have h1 := seenS_few m ws ss i
          have h2 := k2.1
          have h3 := stF_ge hB (n - 1)
          have h4 : ss.length ≤ 1000 := hfew
          rw [List.length_map] at hn2 hi
          omega
        refine ⟨t, as.map V.ref, .ref tm, rfl, rfl, k17, by rw [List.length_map, sizeLine_eq]; omega, ?_⟩
        have gp : Go [t] H7 (upd H7 t (.lst (as.map V.ref ++ [.ref tm]))) := Go.put k17 rfl (List.Mem.head _)
        have g08 : Go [] H (upd H7 t (.lst (as.map V.ref ++ [.ref tm]))) := (g06.trans g67).mut ft0
        have g68 : Go [t] H6 (upd H7 t (.lst (as.map V.ref ++ [.ref tm]))) := g67.wide.trans gp
        have gp' := gp
        refine .inl ⟨_, rfl, _, rfl, ixT ((g67.wide.trans gp).sqT w1) hwr ⟨_, rfl, wa, pb, _, _, rfl, (g67.wide.trans gp).sqT w4, g68.sqT hpb, pfew, fun H9 pc g89 hpc => ?_⟩⟩
        refine ⟨(g26.trans g68).trans g89.wide, g08.trans g89, as ++ [tm], pc, _, _, _, ?_, ?_, ?_, rfl⟩
        · rw [List.map_append]
          exact g89.old t _ (fun z => nomatch z) upd_same
        · rw [es]
          exact ((k26.go g68).snoc (gp.sqT hm)).go g89
        · rw [es]
          exact hpc
      · have es : seenS m ws ss (i + 1) = ((seenS m ws ss i).1, withS m (seenS m ws ss i).2 (tS m.clock ss i)) := by
          conv => lhs; unfold seenS
          rw [if_neg hc]
        refine (if_neg ?_).mpr ?_
        · intro z
          exact hc (Int.ofNat.inj (V.int.inj (of_decide_eq_true z)))
        · refine ⟨g26, g06, as, pb, _, _, _, k16, ?_, ?_, rfl⟩
          · rw [es]; exact k26
          · rw [es]; exact hpb
    · rintro σ H' ⟨_, g3, as, pa, z5, z6, z7, k1, k2, k3, rfl⟩
      refine ⟨_, rfl, r_nil ⟨t, _, rfl, .inl ⟨SqL.of k1, fun a fa => ⟨_, rfl, r_nil ⟨?_, fun t2 ft2 => ?_⟩⟩⟩⟩⟩
      · show 2 ≤ sizeLine
        decide
      · rw [hlen] at k2 k3
        have gA : Go [] H' (upd H' a (.tup (as.map V.ref))) := Go.new fa
        have gB : Go [] (upd H' a (.tup (as.map V.ref))) (upd (upd H' a (.tup (as.map V.ref))) t2 (.tup [.ref a, .ref pa])) := Go.new ft2
        refine q _ t2 a pa as n (g3.trans (gA.trans gB)) (SqT.of upd_same) (gB.sqT (SqT.of upd_same)) (k2.go (gA.trans gB)) ((gA.trans gB).sqT k3) ⟨by simpa using hn1, by simpa using hn2⟩
end
end Sd

namespace Sd
open PySem PySem.Spec PyProof.Rows L2 RZ RT
def spSeen (c : Wd) (C : Addr) (fst : Bool) : Sp := fun vs H Q _ => ∃ (o w r : Addr) (m : Mac) (cs : List (List Nat)) (ws : List (List Str)) (ss : List Stp), vs = [.ref o, .ref w, .ref r] ∧ MacAt c.K C H o m cs ∧ macB m = true ∧ WatAt c.K H w ws ∧ watchB m ws = true ∧
  SqT c.K H r ((ss.map Stp.name).map V.str) ∧ runOf m ss ∧
  ∀ H' a b as n, Go [] H H' → SqT c.K H' a (as.map V.ref) → MksAt c.K H' as (seenS m ws ss n).1 → SqT c.K H' b ((seenS m ws ss n).2.map V.str) → turnsIn m ss n → Q (.ref (if fst then a else b)) H'
/-- the sets of a machine -/
def setsS (m : Mac) (cs : List (List Nat)) : List (List Str) := cs.map fun ix => ix.map fun i => m.pages.getD i Str.empty
def spIsRow (c : Wd) (C : Addr) : Sp := fun vs H Q _ => ∃ (o v : Addr) (m : Mac) (cs : List (List Nat)) (rs : List (List Str)), vs = [.ref o, .int (rs.length : Nat), .ref v] ∧ MacAt c.K C H o m cs ∧ macB m = true ∧ macCs m cs ∧ WatAt c.K H v rs ∧ rs.length ≤ 1000 ∧ rs[0]? = some m.first ∧
  (∀ r ∈ rs, r ∈ setsS m cs) ∧ ∀ H', Go [] H H' → Q (.bl true) H'
theorem name_ok {s : Str} (h : isNameS s = true) : PyData.strOk s = true := by
  have low : ∀ c ∈ lettersZ.cps.toList, c < 0x110000 := by decide
  simp only [isNameS, Bool.and_eq_true, List.all_eq_true, decide_eq_true_eq] at h
  unfold PyData.strOk
  rw [← Array.all_toList]
  exact List.all_eq_true.mpr fun c hc => decide_eq_true (low c (h.2 c hc))
def okS (ss : List Str) : Bool := ss.all PyData.strOk
theorem lay_names {ss : List Str} (h : okS ss = true) : (namesD ss).canLay0 = true := by
  show PyData.canLayAll0 (ss.map PyData.str) = true
  rw [PyProof.Rows.canLayAll_strs']
  exact h
theorem dep_names (ss : List Str) : (namesD ss).depth = 1 := by
  show PyData.depthAll (ss.map PyData.str) + 1 = 1
  rw [PyProof.Rows.depthAll_strs']
theorem sh_names {ss : List Str} (h : okS ss = true) : SeqAt.shaped (namesD ss) = true := by
  unfold SeqAt.shaped
  rw [lay_names h, dep_names]
  decide
theorem sh_rows : ∀ {rs : List (List Str)}, (∀ r ∈ rs, okS r = true) → SeqAt.shaped (.tuple (rs.map namesD)) = true := by
  intro rs h
  have a : ∀ {rs : List (List Str)}, (∀ r ∈ rs, okS r = true) → PyData.canLayAll0 (rs.map namesD) = true ∧ PyData.depthAll (rs.map namesD) ≤ 1 := by
    intro rs
    induction rs with
    | nil => intro _; exact ⟨rfl, Nat.zero_le _⟩
    | cons r rs ih =>
      intro h
      obtain ⟨i1, i2⟩ := ih fun x hx => h x (List.mem_cons_of_mem _ hx)
      refine ⟨?_, ?_⟩
      · show ((namesD r).canLay0 && PyData.canLayAll0 (rs.map namesD)) = true
        rw [lay_names (h r List.mem_cons_self), i1]
        rfl
      · show max (namesD r).depth (PyData.depthAll (rs.map namesD)) ≤ 1
        rw [dep_names]
        omega
  obtain ⟨i1, i2⟩ := a h
  have i3 : (PyData.tuple (rs.map namesD)).canLay0 = true := i1
  have i4 : (PyData.tuple (rs.map namesD)).depth ≤ 64 := by
    show PyData.depthAll (rs.map namesD) + 1 ≤ 64
    omega
  unfold SeqAt.shaped
  rw [i3, decide_eq_true i4]
  rfl
theorem pages_ok {m : Mac} (hB : macB m = true) : okS m.pages = true := by
  simp only [macB, pagesB, namesB, Bool.and_eq_true, decide_eq_true_eq, List.all_eq_true] at hB
  exact List.all_eq_true.mpr fun p hp => name_ok (hB.2.2.1.1.1 p hp)
theorem set_ok {m : Mac} {cs : List (List Nat)} (hB : macB m = true) {r : List Str} (h : r ∈ setsS m cs) : okS r = true := by
  have hp := pages_ok hB
  simp only [setsS, List.mem_map] at h
  obtain ⟨ix, _, rfl⟩ := h
  refine List.all_eq_true.mpr fun p hp' => ?_
  simp only [List.mem_map] at hp'
  obtain ⟨i, _, rfl⟩ := hp'
  by_cases hi : i < m.pages.length
  · rw [List.getD_eq_getElem?_getD, List.getElem?_eq_getElem hi]
    exact List.all_eq_true.mp hp _ (List.getElem_mem hi)
  · rw [List.getD_eq_getElem?_getD, List.getElem?_eq_none (Nat.le_of_not_lt hi)]
    show PyData.strOk Str.empty = true
    decide +kernel
theorem sets_at {K : PySem.W.Frag} {C : Addr} {H : Hp} {o : Addr} {m : Mac} {cs : List (List Nat)} (hM : MacAt K C H o m cs) (hC : macCs m cs) :
    ∃ (dx : Addr) (fs : List (Str × V)) (a7 : Addr) (ts : List Addr), H o = some (.ins C dx fs) ∧ fs.lookup ("_sets" : Str) = some (.ref a7) ∧ SqT K H a7 (ts.map V.ref) ∧ Dp K H (.ref a7) (.tuple ((setsS m cs).map namesD)) := by
  obtain ⟨dx, fs, _, _, _, _, _, a7, _, _, ts, _, _, e0, _, _, _, _, _, _, _, _, _, _, _, e12, e13, e14, e15, _⟩ := hM.ex
  refine ⟨dx, fs, a7, ts, e0, e12, e13, .tup e13 (dpA_refs ts (setsS m cs) (by rw [e14]; simp [setsS]) fun j t r h1 h2 => ?_)⟩
  unfold setsS at h2
  rw [List.getElem?_map] at h2
  cases hj : cs[j]? with
  | none => rw [hj] at h2; cases h2
  | some ix =>
    rw [hj] at h2
    have h3 := e15 j t ix h1 hj
    have h4 : r = ix.map fun i => m.pages.getD i Str.empty := (Option.some.inj h2).symm
    have h5 : (ix.map fun i => (m.pages.map V.str).getD i .non) = r.map V.str := by
      rw [h4, List.map_map]
      refine List.map_congr_left fun i hi => ?_
      have hlt := hC.2.2 ix (List.mem_of_getElem? hj) i hi
      show (m.pages.map V.str).getD i .non = V.str (m.pages.getD i Str.empty)
      rw [List.getD_eq_getElem?_getD, List.getD_eq_getElem?_getD, List.getElem?_map, List.getElem?_eq_getElem hlt]
      rfl
    rw [h5] at h3
    exact h3
section
variable {c : Wd} {C : Addr}
abbrev s_unseen : Stmt := topS 30
abbrev N_unseen : List Str := ["machine", "watch", "run"]
abbrev P_unseen : List Str := ["machine", "watch", "run"]
theorem sc_unseen : FnScope N_unseen P_unseen (defScope s_unseen) := ⟨rfl, rfl, rfl, by decide +kernel, rfl, by decide +kernel, by decide +kernel⟩
theorem ok_unseen (F : At c "unseen" "unseen" s_unseen P_unseen) (D_seen_and_unseen : Ok c "seen_and_unseen" 6 P_seen_and_unseen (spSeenU c C)) : Ok c "unseen" 7 P_unseen (spSeen c C false) := by
  refine Ok.of F sc_unseen (fun vs H Q E h => ?_) (fun f cdv A out s H vs Q E hr h => ?_)
  · obtain ⟨o, w, r, m, cs, ws, ss, rfl, _⟩ := h
    rfl
  · obtain ⟨o, w, r, m, cs, ws, ss, rfl, hM, hB, hW, hwB, hs, hR, q⟩ := h
    have hu1 := hu_of hr
    refine ⟨_, (pss_one (ps_ret (pe_ixU (K := c.K) hu1 (pe_f D_seen_and_unseen (hr.mono (by decide)) (by rfl) (pa_cons (pv 0) (pa_cons (pv 1) (pa_cons (pv 2) pa_nil)))) pe_int (fun _ _ => rfl) (fun _ _ => rfl)))), ?_⟩
    exact .inl ⟨_, rfl, _, rfl, _, rfl, o, w, r, m, cs, ws, ss, rfl, hM, hB, hW, hwB, hs, hR, fun H1 t a b as n g1 ht ha hk hb hn => ixT (i := 1) ht rfl (q H1 a b as n g1 ha hk hb hn)⟩
end
end Sd

namespace Sd
open PySem PySem.Spec PyProof.Rows L2 RZ RT
/-- what turns cost beside these sets -/
def slowL (m : Mac) (ss : List Stp) (rs : List (List Str)) (k : Nat) : List Int := (List.range k).map fun i => ((slowS (tS m.clock ss i) (rs.getD i []) : Nat) : Int)
def moveL (m : Mac) (rs : List (List Str)) (k : Nat) : List Int := (List.range k).map fun i => (m.move : Int) * ((comeS (rs.getD i []) (rs.getD (i + 1) [])).length : Nat)
def totalS (m : Mac) (ss : List Stp) (rs : List (List Str)) (n : Nat) : Int := (slowL m ss rs (min n rs.length)).sum + (moveL m rs (rs.length - 1)).sum
def rowB (rs : List (List Str)) : Bool := decide (rs.length ≤ 1000) && rs.all fun r => decide (r.length ≤ 1000)
def spTotal (c : Wd) (C : Addr) : Sp := fun vs H Q _ => ∃ (o t v : Addr) (m : Mac) (cs : List (List Nat)) (ss : List Stp) (rs : List (List Str)) (n : Nat), vs = [.ref o, .ref t, .ref v] ∧ MacAt c.K C H o m cs ∧ macB m = true ∧ TurnsAt c.K H t m.clock (ss.map Stp.name) n ∧
  n ≤ 1000 ∧ ss.length ≤ 1000 ∧ (∀ s ∈ ss, ∃ i : Nat, m.steps[i]? = some s) ∧ WatAt c.K H v rs ∧ rowB rs = true ∧ ∀ H', Go [] H H' → Q (.int (totalS m ss rs n)) H'
theorem ref_at {xs : List Addr} {i : Nat} {a : Addr} {x : V} (h : xs[i]? = some a) (e : (xs.map V.ref)[i]? = some x) : x = .ref a := by
  rw [List.getElem?_map, h] at e
  exact (Option.some.inj e).symm
section
variable {c : Wd} {C : Addr}
end
end Sd

namespace Sd
open PySem PySem.Spec PyProof.Rows L2 RZ RT
theorem stF_mono (ck : List Nat) {i j : Nat} (h : i ≤ j) : stF ck i ≤ stF ck j := by
  induction j with
  | zero =>
    have : i = 0 := by omega
    subst this
    exact Nat.le_refl _
  | succ j ih =>
    by_cases e : i = j + 1
    · subst e
      exact Nat.le_refl _
    · exact Nat.le_trans (ih (by omega)) (Nat.le_add_right _ _)
theorem turns_one {m : Mac} {ss : List Stp} {i j : Nat} (hi : turnsIn m ss i) (hj : turnsIn m ss j) : i = j := by
  obtain ⟨a1, a2⟩ := hi
  obtain ⟨b1, b2⟩ := hj
  rcases Nat.lt_trichotomy i j with h | h | h
  · rcases b2 with z | z
    · omega
    · have := stF_mono m.clock (show i ≤ j - 1 by omega)
      omega
  · exact h
  · rcases a2 with z | z
    · omega
    · have := stF_mono m.clock (show j ≤ i - 1 by omega)
      omega
theorem turns_few {m : Mac} (hB : macB m = true) {ss : List Stp} {n : Nat} (h : turnsIn m ss n) : n ≤ ss.length := by
  rcases h.2 with z | z
  · omega
  · have := stF_ge hB (n - 1)
    omega
def spPrice (c : Wd) (C : Addr) : Sp := fun vs H Q _ => ∃ (o r v : Addr) (m : Mac) (cs : List (List Nat)) (ss : List Stp) (rs : List (List Str)), vs = [.ref o, .ref r, .ref v] ∧ MacAt c.K C H o m cs ∧ macB m = true ∧ macCs m cs ∧ SqT c.K H r ((ss.map Stp.name).map V.str) ∧ runOf m ss ∧
  WatAt c.K H v rs ∧ rowB rs = true ∧ rs[0]? = some m.first ∧ (∀ r ∈ rs, r ∈ setsS m cs) ∧ turnsIn m ss rs.length ∧ ∀ H', Go [] H H' → Q (.int (totalS m ss rs rs.length)) H'
section
variable {c : Wd} {C : Addr}
end
end Sd

namespace Sd
open PySem PySem.Spec PyProof.Rows L2
theorem Pot.up {H : Hp} {p : Addr} {n m : Nat} (h : Pot H p n) (l : n ≤ m) : Pot H p m := by
  obtain ⟨a, b, k, h1, h2, h3, h4⟩ := h
  exact ⟨a, b, k, h1, h2, h3, by omega⟩
theorem Pot.go {H H' : Hp} {p : Addr} {n : Nat} (h : Pot H p n) (g : Go [] H H') : Pot H' p n := by
  obtain ⟨a, b, k, h1, h2⟩ := h
  exact ⟨a, b, k, g.old p _ (by simp) h1, h2⟩
/-- a new pot, for a small number -/
def spPotOf (c : Wd) : Sp := fun vs H Q _ => ∃ (a : Addr) (ns : List Int) (k : Nat), vs = [.ref a, .int (k : Int)] ∧ SqL c.K H a (ns.map V.int) ∧ ns.length ≤ 63 ∧ (∀ z ∈ ns, Builtin.Int.intBits z ≤ 1048576) ∧ k ≤ 3 ∧
  ∀ (p : Addr) (H' : Hp), H p = none → Go [] H H' → Pot H' p 0 → Q (.ref p) H'
section
variable {c : Wd}
abbrev s__law_pot_of : Stmt := topS 48
abbrev N__law_pot_of : List Str := ["_law_script", "_law_k", "_law_cell", "_law_own"]
abbrev P__law_pot_of : List Str := ["_law_script", "_law_k"]
theorem sc__law_pot_of : FnScope N__law_pot_of P__law_pot_of (defScope s__law_pot_of) := ⟨rfl, rfl, rfl, by decide +kernel, rfl, by decide +kernel, by decide +kernel⟩
theorem ok_pot_of (F : At c "_law_pot_of" "_law_pot_of" s__law_pot_of P__law_pot_of) (B : Bi c) : Ok c "_law_pot_of" 1 P__law_pot_of (spPotOf c) := by
  refine Ok.of F sc__law_pot_of (fun vs H Q E h => ?_) (fun f cdv A out s H vs Q E hr h => ?_)
  · obtain ⟨a, ns, k, rfl, _⟩ := h
    rfl
  · obtain ⟨a, ns, k, rfl, hS, hl, hbits, hk, q⟩ := h
    have hu1 := hu_of hr
    have hu := hr.units
    refine ⟨_, (pss_cons (ps_set (i := 2) sc__law_pot_of.nd rfl (by first | exact Or.inl rfl | exact Or.inr rfl) (pe_ifExp (pt_cmpR op_ltU (pv 1) (pe_callB (call_lenU (K := c.K)) (by rfl) B.len (by decide +kernel) (pa_cons (pv 0) pa_nil)) (nomark _)) (pe_ixU (K := c.K) hu1 (pv 0) (pv 1) (fun _ _ => rfl) (fun _ _ => rfl)) (pe_op (op_addU (K := c.K)) (pe_op op_mulU pe_int (pv 1)) pe_int)))
    (pss_cons (ps_set (i := 3) sc__law_pot_of.nd rfl (by first | exact Or.inl rfl | exact Or.inr rfl) (pe_op op_mulU (pe_op op_modU (pe_callTy call_intU (by rfl) B.int (by decide +kernel) (pa_cons (pe_callB call_absU (by rfl) B.abs (by decide +kernel) (pa_cons (pv 2) pa_nil)) pa_nil)) (pe_op op_powU (pe_op op_powU pe_int pe_int) pe_int)) (pe_callTy call_intU (by rfl) B.int (by decide +kernel) (pa_cons (pe_cmpR op_ge (pe_callB call_absU (by rfl) B.abs (by decide +kernel) (pa_cons (pv 2) pa_nil)) (pe_op op_powU pe_int pe_int) (nomark _)) pa_nil))))
    (pss_one (ps_ret (pe_lst (pa_cons (pv 3) (pa_cons (pe_op op_modU (pe_op (op_addU (K := c.K)) (pe_op (op_addU (K := c.K)) (pe_op op_mulU (pe_op op_modU (pe_callTy call_intU (by rfl) B.int (by decide +kernel) (pa_cons (pv 2) pa_nil)) pe_int) pe_int) (pe_op op_mulU (pe_op op_mulU pe_int (pv 1)) (pv 1))) pe_int) pe_int) (pa_cons pe_int pa_nil)))))))), ?_⟩
    have hK : ((k : Nat) : Int).natAbs < 2 ^ 31 := by omega
    refine ⟨_, rfl, _, rfl, r_nil (r_lenL hS (r_ltI ⟨_, rfl, ?_⟩))⟩
    have hp1 : (((10 : Int) ^ (60 : Int).toNat) ^ (5 : Int).toNat) ≤ 2 ^ 1000 := by decide +kernel
    have hp0 : 0 < (((10 : Int) ^ (60 : Int).toNat) ^ (5 : Int).toNat) := by decide +kernel
    have c1 : CPowW 10 60 := ⟨by decide, by decide +kernel⟩
    have c2 : CPowW ((10 : Int) ^ (60 : Int).toNat) 5 := ⟨by decide, by decide +kernel⟩
    have c3 : CPowW 10 18 := ⟨by decide, by decide +kernel⟩
    refine ite2 (fun h1 => ?_) (fun h1 => ?_)
    · have hk2 : k < ns.length := by
        simpa using h1
      have hz : (ns.map V.int)[k]? = some (.int ns[k]) := by
        rw [List.getElem?_map, List.getElem?_eq_getElem hk2]
        rfl
      refine .inl ⟨_, rfl, _, rfl, .inl ⟨a, _, _, _, rfl, rfl, hS, atI_nat hz, ?_⟩⟩
      generalize ns[k] = z
      refine ⟨_, rfl, z, rfl, ?_⟩
      generalize (if z < 0 then -z else z) = z1
      refine r_nil (.inl ⟨z1, rfl, ?_⟩)
      dsimp only [tOp, tC]
      refine r_pow c1 fun m1 e1 => ?_
      subst e1
      refine r_pow c2 fun m2 e2 => ?_
      subst e2
      refine r_mod hp0 fun m m0 ml _ => ?_
      refine ⟨_, rfl, z, rfl, ?_⟩
      generalize (if z < 0 then -z else z) = z2
      dsimp only [tOp, tC]
      refine r_pow c3 fun m3 e3 => ⟨z2, m3, rfl, rfl, r_nil (.inr ⟨_, rfl, ?_⟩)⟩
      generalize decide (m3 ≤ z2) = bb
      have hm : m.natAbs < 2 ^ 1000 := by
        have : m < 2 ^ 1000 := Int.lt_of_lt_of_le ml hp1
        have h2 : (m.natAbs : Int) < ((2 ^ 1000 : Nat) : Int) := by
          rw [Int.natAbs_of_nonneg m0]
          exact_mod_cast this
        exact_mod_cast h2
      have hb : (if bb = true then (1 : Int) else 0).natAbs < 2 ^ 1 := by cases bb <;> decide
      refine r_mulI (wide_mul (a := 1000) (b := 1) hm hb (by decide) (by decide) (by decide)) ?_
      generalize m * (if bb = true then (1 : Int) else 0) = own
      refine ⟨_, rfl, _, rfl, .inl ⟨z, rfl, r_mod (by decide) fun n1 n1a n1b _ => ?_⟩⟩
      have hn1 : n1.natAbs < 2 ^ 62 := by omega
      refine r_mulI (wide_mul (j := 70913) (a := 62) (b := 20) hn1 (by decide) (by decide) (by decide) (by decide)) ?_
      refine ⟨_, rfl, r_mulI (wide_mul (i := 7013) (a := 16) (b := 31) (by decide) hK (by decide) (by decide) (by decide)) ?_⟩
      refine ⟨_, rfl, r_mulI (wide_mul (a := 47) (b := 31) (wide_lt (a := 16) (b := 31) (by decide) hK) hK (by decide) (by decide) (by decide)) ?_⟩
      refine r_addI (r_addI (r_mod (by decide) fun n2 n2a n2b _ => ?_))
      refine r_c (r_nil ⟨by show 3 ≤ sizeLine; decide, fun p hp => ?_⟩)
      exact q p _ hp (Go.new hp) ⟨own, n2, 0, upd_same, n2a, n2b, by omega⟩
    · refine ⟨_, rfl, r_mulI (wide_mul (i := 37) (a := 16) (b := 31) (by decide) hK (by decide) (by decide) (by decide)) (r_addI ?_)⟩
      generalize 37 * ((k : Nat) : Int) + 11 = z
      refine ⟨_, rfl, z, rfl, ?_⟩
      generalize (if z < 0 then -z else z) = z1
      refine r_nil (.inl ⟨z1, rfl, ?_⟩)
      dsimp only [tOp, tC]
      refine r_pow c1 fun m1 e1 => ?_
      subst e1
      refine r_pow c2 fun m2 e2 => ?_
      subst e2
      refine r_mod hp0 fun m m0 ml _ => ?_
      refine ⟨_, rfl, z, rfl, ?_⟩
      generalize (if z < 0 then -z else z) = z2
      dsimp only [tOp, tC]
      refine r_pow c3 fun m3 e3 => ⟨z2, m3, rfl, rfl, r_nil (.inr ⟨_, rfl, ?_⟩)⟩
      generalize decide (m3 ≤ z2) = bb
      have hm : m.natAbs < 2 ^ 1000 := by
        have : m < 2 ^ 1000 := Int.lt_of_lt_of_le ml hp1
        have h2 : (m.natAbs : Int) < ((2 ^ 1000 : Nat) : Int) := by
          rw [Int.natAbs_of_nonneg m0]
          exact_mod_cast this
        exact_mod_cast h2
      have hb : (if bb = true then (1 : Int) else 0).natAbs < 2 ^ 1 := by cases bb <;> decide
      refine r_mulI (wide_mul (a := 1000) (b := 1) hm hb (by decide) (by decide) (by decide)) ?_
      generalize m * (if bb = true then (1 : Int) else 0) = own
      refine ⟨_, rfl, _, rfl, .inl ⟨z, rfl, r_mod (by decide) fun n1 n1a n1b _ => ?_⟩⟩
      have hn1 : n1.natAbs < 2 ^ 62 := by omega
      refine r_mulI (wide_mul (j := 70913) (a := 62) (b := 20) hn1 (by decide) (by decide) (by decide) (by decide)) ?_
      refine ⟨_, rfl, r_mulI (wide_mul (i := 7013) (a := 16) (b := 31) (by decide) hK (by decide) (by decide) (by decide)) ?_⟩
      refine ⟨_, rfl, r_mulI (wide_mul (a := 47) (b := 31) (wide_lt (a := 16) (b := 31) (by decide) hK) hK (by decide) (by decide) (by decide)) ?_⟩
      refine r_addI (r_addI (r_mod (by decide) fun n2 n2a n2b _ => ?_))
      refine r_c (r_nil ⟨by show 3 ≤ sizeLine; decide, fun p hp => ?_⟩)
      exact q p _ hp (Go.new hp) ⟨own, n2, 0, upd_same, n2a, n2b, by omega⟩
end
end Sd

/-! L05a: what is drawn: one of some; all sets of a size -/
namespace Sd
open PySem PySem.Spec PyProof.Rows L2 RZ RT
theorem r_repT {K : PySem.W.Frag} {H : Hp} {l : Addr} {xs : List V} {k : Nat} {Q : VK} (h : SqT K H l xs) (ne : xs ≠ []) (hl : xs.length ≤ 1000) (hk : k ≤ 1000)
    (q : ∀ a H', Go [] H H' → SqT K H' a (List.replicate k xs).flatten → Q (.ref a) H') : rMulQ K (.ref l) (.int (k : Int)) H Q := by
  rcases (by omega : k = 0 ∨ k = 1 ∨ 2 ≤ k) with z | z | z
  · subst z
    exact .inr (.inr ⟨l, 0, xs, rfl, rfl, h, ne, .inr ⟨rfl, fun p hp => q p _ (Go.new hp) (SqT.of upd_same)⟩⟩)
  · subst z
    exact .inr (.inr ⟨l, 1, xs, rfl, rfl, h, ne, .inl ⟨rfl, q l H (Go.refl _ _) (by simpa using h)⟩⟩)
  · refine .inr (.inl ⟨l, _, xs, rfl, rfl, h, ne, by omega, by omega, hl, fun p hp => q p _ (Go.new hp) (SqT.of ?_)⟩)
    rw [Int.toNat_natCast]
    exact upd_same
theorem r_catT {K : PySem.W.Frag} {H : Hp} {a b : Addr} {xs ys : List V} {Q : VK} (h1 : SqT K H a xs) (h2 : SqT K H b ys) (hz : xs.length + ys.length ≤ sizeLine)
    (q : ∀ t H', Go [] H H' → SqT K H' t (xs ++ ys) → Q (.ref t) H') : rAddU K (.ref a) (.ref b) H Q := by
  refine .inr (.inr ⟨a, b, xs, ys, rfl, rfl, h1, h2, hz, fun e => ?_, fun _ e => ?_, fun _ _ p hp => q p _ (Go.new hp) (SqT.of upd_same)⟩)
  · subst e
    exact q b H (Go.refl _ _) h2
  · subst e
    exact q a H (Go.refl _ _) (by rw [List.append_nil]; exact h1)
theorem keep_go {M : List Addr} {x C dx : Addr} {H H' : Hp} (fx : H x = none) (fdx : H dx = none) (k : Keep x (upd (upd H dx (.own x)) x (.ins C dx [])) H') : Go M H H' := by
  have a : ∀ b o, H b = some o → H' b = some o := fun b o e => k b o (ne_of_none e fx) (by rw [upd_ne (ne_of_none e fx), upd_ne (ne_of_none e fdx)]; exact e)
  exact ⟨fun b o _ e => a b o e, fun b o _ e => a b o e⟩
theorem refs_of {P : Nat → Addr → Prop} : ∀ {ys : List V}, (∀ (i : Nat) (y : V), ys[i]? = some y → ∃ a, y = .ref a ∧ P i a) → ∃ as : List Addr, ys = as.map V.ref ∧ ∀ (i : Nat) (a : Addr), as[i]? = some a → P i a := by
  intro ys
  induction ys generalizing P with
  | nil => exact fun _ => ⟨[], rfl, fun i a e => by simp at e⟩
  | cons y ys ih =>
    intro h
    obtain ⟨a, rfl, ha⟩ := h 0 y rfl
    obtain ⟨as, rfl, has⟩ := ih (P := fun i a => P (i + 1) a) fun i y e => h (i + 1) y (by simpa using e)
    refine ⟨a :: as, rfl, fun i b e => ?_⟩
    cases i with
    | zero =>
      have : a = b := by simpa using e
      exact this ▸ ha
    | succ i => exact has i b (by simpa using e)
/-- some[take(pot, len(some))] -/
def spDrawn (c : Wd) : Sp := fun vs H Q _ => ∃ (p l : Addr) (n : Nat) (xs : List V), vs = [.ref p, .ref l] ∧ Pot H p n ∧ n ≤ 2 ^ 30 ∧ xs ≠ [] ∧ xs.length < 2 ^ 29 ∧
  ((l ≠ p ∧ H l = some (.lst xs)) ∨ SqT c.K H l xs) ∧ ∀ (r : Nat) (v : V) (H' : Hp), xs[r]? = some v → Go [p] H H' → Pot H' p (n + 1) → Q v H'
/-- tuples of texts at these addresses -/
def NmsAt (K : PySem.W.Frag) (H : Hp) (as : List Addr) (rs : List (List Str)) : Prop := as.length = rs.length ∧ ∀ (j : Nat) (x : Addr) (r : List Str), as[j]? = some x → rs[j]? = some r → SqT K H x (r.map V.str)
theorem NmsAt.go {K : PySem.W.Frag} {M : List Addr} {H H' : Hp} {as : List Addr} {rs : List (List Str)} (h : NmsAt K H as rs) (g : Go M H H') : NmsAt K H' as rs := ⟨h.1, fun j x r e1 e2 => g.sqT (h.2 j x r e1 e2)⟩
theorem NmsAt.app {K : PySem.W.Frag} {H : Hp} {as bs : List Addr} {rs qs : List (List Str)} (h : NmsAt K H as rs) (k : NmsAt K H bs qs) : NmsAt K H (as ++ bs) (rs ++ qs) := by
  refine ⟨by simp [h.1, k.1], fun j x r e1 e2 => ?_⟩
  by_cases hj : j < as.length
  · rw [List.getElem?_append_left hj] at e1
    rw [List.getElem?_append_left (by rw [← h.1]; exact hj)] at e2
    exact h.2 j x r e1 e2
  · rw [List.getElem?_append_right (by omega)] at e1
    rw [List.getElem?_append_right (by have := h.1; omega), ← h.1] at e2
    exact k.2 _ x r e1 e2
def ltT (a b : Str) : Bool := decide (a.cps.toList < b.cps.toList)
/-- one may go on with this page -/
def mayS (one : List Str) (p : Str) : Bool := match one.getLast? with | none => true | some l => ltT l p
def growS (ps one : List Str) : List (List Str) := (ps.filter (mayS one)).map fun p => one ++ [p]
def setsL (ps : List Str) : Nat → List (List Str)
  | 0 => [[]]
  | n + 1 => (setsL ps n).flatMap (growS ps)
theorem growS_few (ps one : List Str) : (growS ps one).length ≤ ps.length := by
  unfold growS
  rw [List.length_map]
  exact List.length_filter_le _ _
theorem flat_few {f : List Str → List (List Str)} {k : Nat} (hf : ∀ x, (f x).length ≤ k) : ∀ xs : List (List Str), (xs.flatMap f).length ≤ xs.length * k
  | [] => by simp
  | x :: xs => by
    rw [List.flatMap_cons, List.length_append, List.length_cons, Nat.succ_mul]
    have := hf x
    have := flat_few hf xs
    omega
theorem setsL_few {ps : List Str} (h : ps.length ≤ 4) : ∀ n, (setsL ps n).length ≤ 4 ^ n
  | 0 => by simp [setsL]
  | n + 1 => by
    have h1 := flat_few (f := growS ps) (k := 4) (fun x => Nat.le_trans (growS_few ps x) h) (setsL ps n)
    have h2 := setsL_few h n
    show ((setsL ps n).flatMap (growS ps)).length ≤ 4 ^ (n + 1)
    rw [Nat.pow_succ]
    omega
theorem setsL_mem {ps : List Str} : ∀ (n : Nat) (r : List Str), r ∈ setsL ps n → r.length = n ∧ ∀ p ∈ r, p ∈ ps
  | 0, r, h => by
    have : r = [] := by simpa [setsL] using h
    subst this
    exact ⟨rfl, fun p hp => nomatch hp⟩
  | n + 1, r, h => by
    obtain ⟨one, h1, h2⟩ := List.mem_flatMap.mp h
    obtain ⟨i1, i2⟩ := setsL_mem n one h1
    simp only [growS, List.mem_map, List.mem_filter] at h2
    obtain ⟨p, ⟨hp, _⟩, rfl⟩ := h2
    refine ⟨by simp [i1], fun q hq => ?_⟩
    rcases List.mem_append.mp hq with z | z
    · exact i2 q z
    · rw [List.mem_singleton.mp z]
      exact hp
theorem okS_sub {ps r : List Str} (h : okS ps = true) (hr : ∀ p ∈ r, p ∈ ps) : okS r = true := List.all_eq_true.mpr fun p hp => List.all_eq_true.mp h p (hr p hp)
theorem atI_last {α : Type} {xs : List α} {v : α} (h : xs.getLast? = some v) : atI xs (-1) = some v := by
  have hne : xs ≠ [] := fun e => by rw [e] at h; cases h
  have hl : 1 ≤ xs.length := List.length_pos_iff.mpr hne
  unfold atI ixN
  rw [if_neg (by decide), if_pos (by omega)]
  show xs[((-1 : Int) + (xs.length : Int)).toNat]? = some v
  rw [show ((-1 : Int) + (xs.length : Int)).toNat = xs.length - 1 by omega, ← List.getLast?_eq_getElem?]
  exact h
theorem ixT_last {K : PySem.W.Frag} {H : Hp} {Q : VK} {p : Addr} {xs : List V} {v : V} (h : SqT K H p xs) (hl : xs.getLast? = some v) (q : Q v H) : rIx K (.ref p) (.int (-1)) H Q :=
  .inr (.inl ⟨p, xs, -1, v, rfl, rfl, h, atI_last hl, q⟩)
theorem eqv_nil (r : List Str) : PyData.eqv (namesD r) (.tuple []) = r.isEmpty := by
  cases r with
  | nil => rfl
  | cons a b => rfl
def spSetsOf (c : Wd) : Sp := fun vs H Q _ => ∃ (a : Addr) (ps : List Str) (n : Nat), vs = [.ref a, .int (n : Int)] ∧ SqT c.K H a (ps.map V.str) ∧ ps.length ≤ 4 ∧ okS ps = true ∧ n ≤ 4 ∧
  ∀ H' l as, H l = none → Go [] H H' → H' l = some (.lst (as.map V.ref)) → NmsAt c.K H' as (setsL ps n) → Q (.ref l) H'
section
variable {c : Wd}
abbrev s__law_of : Stmt := topS 50
abbrev N__law_of : List Str := ["_law_pot", "_law_some"]
abbrev P__law_of : List Str := ["_law_pot", "_law_some"]
theorem sc__law_of : FnScope N__law_of P__law_of (defScope s__law_of) := ⟨rfl, rfl, rfl, by decide +kernel, rfl, by decide +kernel, by decide +kernel⟩
theorem ok_of (F : At c "_law_of" "_law_of" s__law_of P__law_of) (B : Bi c) (D__law_take : Ok c "_law_take" 1 P__law_take spTake) : Ok c "_law_of" 2 P__law_of (spDrawn c) := by
  refine Ok.of F sc__law_of (fun vs H Q E h => ?_) (fun f cdv A out s H vs Q E hr h => ?_)
  · obtain ⟨p, l, n, xs, rfl, _⟩ := h
    rfl
  · obtain ⟨p, l, n, xs, rfl, hp, hn, h0, hz, hl, q⟩ := h
    have hu1 := hu_of hr
    refine ⟨_, (pss_one (ps_ret (pe_ixU (K := c.K) hu1 (pv 1) (pe_f D__law_take (hr.mono (by decide)) (by rfl) (pa_cons (pv 0) (pa_cons (pe_callB (call_lenU (K := c.K)) (by rfl) B.len (by decide +kernel) (pa_cons (pv 1) pa_nil)) pa_nil))) (fun _ _ => rfl) (fun _ _ => rfl)))), ?_⟩
    have hpos : 0 < xs.length := by cases xs with | nil => exact absurd rfl h0 | cons => simp
    have fin : ∀ (r : Nat) (H' : Hp), r < xs.length → Go [p] H H' → Pot H' p (n + 1) → rIx c.K (.ref l) (.int (r : Int)) H' Q := by
      intro r H' hr g hp'
      have hx : xs[r]? = some xs[r] := List.getElem?_eq_getElem hr
      rcases hl with ⟨hne, hl⟩ | hl
      · exact ixL (g.old l _ (by simpa using hne) hl) hx (q r _ _ hx g hp')
      · exact ixT (g.sqT hl) hx (q r _ _ hx g hp')
    rcases hl with ⟨hne, hl⟩ | hl
    · exact .inl ⟨_, rfl, _, rfl, _, rfl, r_nil (r_lenL (SqL.of hl) ⟨p, n, xs.length, rfl, hp, hn, hpos, hz, fin⟩)⟩
    · exact .inl ⟨_, rfl, _, rfl, _, rfl, r_nil (r_lenT hl ⟨p, n, xs.length, rfl, hp, hn, hpos, hz, fin⟩)⟩
abbrev s__law_sets_of : Stmt := topS 53
abbrev N__law_sets_of : List Str := ["_law_pages", "_law_size", "_law_found", "_law_turn", "_law_longer", "_law_one", "_law_page"]
abbrev P__law_sets_of : List Str := ["_law_pages", "_law_size"]
theorem sc__law_sets_of : FnScope N__law_sets_of P__law_sets_of (defScope s__law_sets_of) := ⟨rfl, rfl, rfl, by decide +kernel, rfl, by decide +kernel, by decide +kernel⟩
theorem ok_sets_of (F : At c "_law_sets_of" "_law_sets_of" s__law_sets_of P__law_sets_of) (B : Bi c) : Ok c "_law_sets_of" 1 P__law_sets_of (spSetsOf c) := by
  refine Ok.of F sc__law_sets_of (fun vs H Q E h => ?_) (fun f cdv A out s H vs Q E hr h => ?_)
  · obtain ⟨a, ps, n, rfl, _⟩ := h
    rfl
  · obtain ⟨a, ps, n, rfl, ha, hl, hok, hn, q⟩ := h
    have hu1 := hu_of hr
    have hu := hr.units
    have hu5 := hr.u5
    have hlen : (ps.map V.str).length = ps.length := by simp
    refine ⟨_, (pss_cons (ps_set (i := 2) sc__law_sets_of.nd rfl (by first | exact Or.inl rfl | exact Or.inr rfl) (pe_lst (pa_cons (pe_tup pa_nil) pa_nil)))
    (pss_cons (ps_for PassesOwn.never rfl (pi_range1 (by rfl) B.range (pa_cons (pv 1) pa_nil)) (pg_name (i := 3) sc__law_sets_of.nd rfl (by first | exact Or.inl rfl | exact Or.inr rfl)) (pss_cons (ps_set (i := 4) sc__law_sets_of.nd rfl (by first | exact Or.inl rfl | exact Or.inr rfl) (pe_lst pa_nil))
    (pss_cons (ps_for PassesOwn.never rfl (pi_seq (K := c.K) (pv 2)) (pg_name (i := 5) sc__law_sets_of.nd rfl (by first | exact Or.inl rfl | exact Or.inr rfl)) (pss_one (ps_expr (pe_bm PySem.F.plainAttrs_list PySem.F.slot_list_extend PySem.F.type_list_extend mt_extend (pv 4) (pa_cons (pe_lc (own := [("_law_page", 6)]) rfl sc__law_sets_of.nd (pi_seq (K := c.K) (pv 0)) (blkOk_by (N := N__law_sets_of) (sc := defScope s__law_sets_of) (by decide +kernel)) (fun _ _ _ _ _ => (pg_name (i := 6) sc__law_sets_of.nd rfl (by first | exact Or.inl rfl | exact Or.inr rfl))) (fun _ _ _ _ _ => pts_one (PW.pt (pw_or (pt_cmpR (op_eqU (K := c.K) hu) (pv 5) (pe_tup pa_nil) (nomark _)) (pw_or1 (pt_cmpR op_gtU (pv 6) (pe_ixU (K := c.K) hu1 (pv 5) (pe_un un_neg pe_int) (fun _ _ => rfl) (fun _ _ => rfl)) (nomark _)))))) (fun _ _ _ _ _ => (pe_op (op_addU (K := c.K)) (pv 5) (pe_tup (pa_cons (pv 6) pa_nil))))) pa_nil)))))
    (pss_one (ps_set (i := 2) sc__law_sets_of.nd rfl (by first | exact Or.inl rfl | exact Or.inr rfl) (pv 4))))))
    (pss_one (ps_ret (pv 2))))), ?_⟩
    refine ⟨Nat.zero_le _, fun e0 fe0 => r_nil ⟨by show 1 ≤ sizeLine; decide, fun l0 fl0 => ?_⟩⟩
    have fl00 : H l0 = none := by
      have : e0 ≠ l0 := fun e => by rw [e, upd_same] at fl0; cases fl0
      rw [upd_ne this.symm] at fl0
      exact fl0
    have g1 : Go [] H (upd (upd H e0 (.tup [])) l0 (.lst [.ref e0])) := (Go.new fe0).trans (Go.new fl0)
    have k1 : NmsAt c.K (upd (upd H e0 (.tup [])) l0 (.lst [.ref e0])) [e0] (setsL ps 0) := ⟨rfl, fun j x r e1 e2 => by
      cases j with
      | zero =>
        have : e0 = x := by simpa using e1
        subst this
        have : r = [] := by simpa [setsL] using e2.symm
        subst this
        exact (Go.new (M := []) fl0).sqT (SqT.of upd_same)
      | succ j => simp at e1⟩
    refine ⟨_, rfl, (n : Int), rfl, by omega, by omega, ?_⟩
    refine for_it (walk_range (lo := 0) (n := n)) (fun i σ H' => Go [] H H' ∧ ∃ (l : Addr) (as : List Addr) (z3 z4 z5 z6 : Option V), H l = none ∧ H' l = some (.lst (as.map V.ref)) ∧ NmsAt c.K H' as (setsL ps i) ∧
      σ = [some (.ref a), some (.int (n : Int)), some (.ref l), z3, z4, z5, z6]) ⟨g1, l0, [e0], _, _, _, _, fl00, upd_same, k1, rfl⟩ (fun _ _ _ _ _ => trivial) ?_ ?_
    · rintro i y σ H2 H3 hi ⟨g2, l, as, z3, z4, z5, z6, fl, k2, k3, rfl⟩ ⟨rfl, rfl⟩
      dsimp only [tNext, tSeq, tAsg, tLst, tNil]
      refine ⟨Nat.zero_le _, fun lt flt => ?_⟩
      have nl : lt ≠ l := fun e => by rw [e, k2] at flt; cases flt
      have flt0 : H lt = none := g2.free (by simp) flt
      have g3 : Go [] H3 (upd H3 lt (.lst [])) := Go.new flt
      refine .inl (.inl ⟨_, rfl, l, rfl, ⟨_, SqL.of (g3.old l _ (fun z => nomatch z) k2)⟩, ?_⟩)
      have as_le : as.length ≤ 4 ^ i := by rw [k3.1]; exact setsL_few hl i
      have pw : 4 ^ i ≤ 64 := by
        rcases (by omega : i = 0 ∨ i = 1 ∨ i = 2 ∨ i = 3) with z | z | z | z <;> subst z <;> decide
      refine for_it (walk_list (xs := as.map V.ref)) (fun j σ H' => Go [] H H' ∧ H' l = some (.lst (as.map V.ref)) ∧ NmsAt c.K H' as (setsL ps i) ∧ ∃ (bs : List Addr) (y3 y5 y6 : Option V), H' lt = some (.lst (bs.map V.ref)) ∧ NmsAt c.K H' bs (((setsL ps i).take j).flatMap (growS ps)) ∧
        σ = [some (.ref a), some (.int (n : Int)), some (.ref l), y3, some (.ref lt), y5, y6]) ?_ (fun j σ H' _ h => SqL.of h.2.1) ?_ ?_
      · exact ⟨g2.trans g3, g3.old l _ (fun z => nomatch z) k2, k3.go g3, [], _, _, _, upd_same, ⟨rfl, fun j x r e1 e2 => by simp at e1⟩, rfl⟩
      · rintro j y σ H4 H5 hj ⟨g4, k4, k5, bs, y3, y5, y6, k6, k7, rfl⟩ ⟨rfl, hy⟩
        rw [List.length_map] at hj
        obtain ⟨oa, hoa⟩ : ∃ o, as[j]? = some o := ⟨_, List.getElem?_eq_getElem hj⟩
        have ey : y = .ref oa := ref_at hoa hy
        subst ey
        obtain ⟨one, hone⟩ : ∃ r, (setsL ps i)[j]? = some r := ⟨_, List.getElem?_eq_getElem (by rw [← k5.1]; exact hj)⟩
        have hoT := k5.2 j oa one hoa hone
        obtain ⟨olen, omem⟩ := setsL_mem i one (List.mem_of_getElem? hone)
        have ook := okS_sub hok omem
        have bfew : bs.length ≤ 1000 := by
          rw [k7.1]
          have h1 := flat_few (f := growS ps) (k := 4) (fun x => Nat.le_trans (growS_few ps x) hl) ((setsL ps i).take j)
          rw [List.length_take] at h1
          have h2 := k3.1
          omega
        refine ⟨_, rfl, .inl ⟨rfl, _, SqL.of k6⟩, .inl (.inr ⟨_, rfl, a, rfl, ⟨_, g4.sqT ha⟩, fun D hD => ?_⟩)⟩
        refine lc_fil (walk_tup (xs := ps.map V.str)) [] (fun _ _ => True) (fun i y H' => ∃ b, y = .ref b ∧ SqT c.K H' b ((one ++ [ps.getD i Str.empty]).map V.str)) (fun i => mayS one (ps.getD i Str.empty)) yk_at
          (by omega) hD (fun _ h => nomatch h) (fun H' g => g.sqT (g4.sqT ha)) trivial (fun _ _ _ _ _ => trivial) (fun _ _ _ _ _ g ⟨b, e1, e2⟩ => ⟨b, e1, g.sqT e2⟩) ?_ ?_
        · rintro u y H6 H7 Fin Skip hu2 g6 g7 _ ⟨rfl, hx⟩ fin skip
          have hx' : y = .str (ps.getD u Str.empty) := by
            simp only [List.getElem?_map] at hx
            cases h : ps[u]? with
            | none => simp [h] at hx
            | some p => rw [List.getD_eq_getElem?_getD, h]; simpa [h] using hx.symm
          subst hx'
          have o6 := g6.sqT hoT
          have made : ∀ H8, Go [] H7 H8 → mayS one (ps.getD u Str.empty) = true → ∀ pb, H8 pb = none → rAddU c.K (.ref oa) (.ref pb) (upd H8 pb (.tup [.str (ps.getD u Str.empty)])) Fin := fun H8 g8 hm pb fpb => by
            have gpb : Go [] H8 (upd H8 pb (.tup [.str (ps.getD u Str.empty)])) := Go.new fpb
            refine r_catT (gpb.sqT (g8.sqT o6)) (SqT.of upd_same) (by rw [List.length_map, olen, sizeLine_eq]; simp; omega) fun r H9 g9 hr9 => fin _ _ hm (g8.trans (gpb.trans g9)) trivial ⟨r, rfl, ?_⟩
            rw [List.map_append]
            exact hr9
          refine ⟨rfl, _, rfl, Nat.zero_le _, fun e1 fe1 => .inr ⟨namesD one, .tuple [], dp_names ((Go.new (M := []) fe1).sqT o6), .tup (SqT.of upd_same) .nil, sh_names ook, by decide, ?_⟩⟩
          rw [eqv_nil]
          have ge1 : Go [] H7 (upd H7 e1 (.tup [])) := Go.new fe1
          refine ⟨_, rfl, ?_⟩
          cases hoe : one.getLast? with
          | none =>
            have o0 : one = [] := List.getLast?_eq_none_iff.mp hoe
            have hm : mayS one (ps.getD u Str.empty) = true := by unfold mayS; rw [hoe]
            rw [o0]
            refine (if_pos rfl).mpr ((if_pos rfl).mpr ⟨_, rfl, _, rfl, by show 1 ≤ sizeLine; decide, fun pb fpb => made _ ge1 hm pb fpb⟩)
          | some last =>
            have o1 : one.isEmpty = false := by
              cases one with
              | nil => cases hoe
              | cons a b => rfl
            rw [o1]
            refine (if_neg (by decide)).mpr ?_
            have hml : (one.map V.str).getLast? = some (.str last) := by rw [List.getLast?_map, hoe]; rfl
            refine ⟨_, rfl, .inl ⟨_, rfl, 1, rfl, ixT_last (ge1.sqT o6) hml (.inr ⟨_, _, rfl, rfl, _, rfl, ?_⟩)⟩⟩
            have em : mayS one (ps.getD u Str.empty) = decide (last.cps.toList < (ps.getD u Str.empty).cps.toList) := by unfold mayS; rw [hoe]; rfl
            by_cases hlt : last.cps.toList < (ps.getD u Str.empty).cps.toList
            · exact (if_pos (decide_eq_true hlt)).mpr ⟨_, rfl, _, rfl, by show 1 ≤ sizeLine; decide, fun pb fpb => made _ ge1 (em.trans (decide_eq_true hlt)) pb fpb⟩
            · exact (if_neg (by rw [decide_eq_false hlt]; simp)).mpr (skip _ (em.trans (decide_eq_false hlt)) ge1 trivial)
        · intro H6 ys g6 _ hD6 hl6 hr6
          obtain ⟨cs, rfl, hcs⟩ := refs_of (P := fun k b => ∀ i, ((List.range ps.length).filter fun i => mayS one (ps.getD i Str.empty))[k]? = some i → SqT c.K H6 b ((one ++ [ps.getD i Str.empty]).map V.str)) (ys := ys) fun k y hk => by
            rw [hlen] at hl6 hr6
            obtain ⟨i0, hi0⟩ : ∃ i, ((List.range ps.length).filter fun i => mayS one (ps.getD i Str.empty))[k]? = some i := ⟨_, List.getElem?_eq_getElem (by rw [← hl6]; exact (List.getElem?_eq_some_iff.mp hk).1)⟩
            obtain ⟨b, rfl, hb⟩ := hr6 k y i0 hk hi0
            refine ⟨b, rfl, fun i hi => ?_⟩
            rw [hi0] at hi
            cases hi
            exact hb
          have gN : NmsAt c.K H6 cs (growS ps one) := by
            rw [hlen, List.length_map] at hl6
            have eg : growS ps one = (((List.range ps.length).filter fun i => mayS one (ps.getD i Str.empty)).map (fun i => ps.getD i Str.empty)).map fun p => one ++ [p] := by
              unfold growS
              rw [filt_range ps (mayS one)]
            refine ⟨by rw [eg, List.length_map, List.length_map]; exact hl6, fun k b r e1 e2 => ?_⟩
            rw [eg, List.map_map, List.getElem?_map] at e2
            cases hi : ((List.range ps.length).filter fun i => mayS one (ps.getD i Str.empty))[k]? with
            | none => rw [hi] at e2; cases e2
            | some i0 =>
              rw [hi] at e2
              have er : r = one ++ [ps.getD i0 Str.empty] := (Option.some.inj e2).symm
              rw [er]
              exact hcs k b e1 i0 hi
          have k66 := g6.old lt _ (fun z => nomatch z) k6
          have k46 := g6.old l _ (fun z => nomatch z) k4
          refine r_nil ⟨lt, D, _, _, rfl, rfl, k66, hD6, ?_, ?_⟩
          · rw [List.length_map, List.length_map, gN.1, sizeLine_eq]
            have := growS_few ps one
            omega
          have gp : Go [lt] H6 (upd H6 lt (.lst (bs.map V.ref ++ cs.map V.ref))) := Go.put k66 rfl (List.Mem.head _)
          refine ⟨(g4.trans g6).mut flt0, ?_, (k5.go g6).go gp, bs ++ cs, _, _, _, ?_, ?_, rfl⟩
          · rw [upd_ne nl.symm]
            exact k46
          · rw [List.map_append]
            exact upd_same
          · have et : (setsL ps i).take (j + 1) = (setsL ps i).take j ++ [one] := by
              rw [List.take_add_one, hone]
              rfl
            rw [et, List.flatMap_append, List.flatMap_singleton]
            exact ((k7.go g6).app gN).go gp
      · rintro σ H4 ⟨g4, k4, k5, bs, y3, y5, y6, k6, k7, rfl⟩
        refine ⟨_, rfl, g4, lt, bs, _, _, _, _, flt0, k6, ?_, rfl⟩
        have e : (as.map V.ref).length = (setsL ps i).length := by rw [List.length_map, k5.1]
        rw [e, List.take_length] at k7
        exact k7
    · rintro σ H2 ⟨g2, l, as, z3, z4, z5, z6, fl, k2, k3, rfl⟩
      exact ⟨_, rfl, q H2 l as fl g2 k2 k3⟩
end
end Sd

/-! L05b: steps that are drawn -/
namespace Sd
open PySem PySem.Spec PyProof.Rows L2 RZ RT
/-- the i-th letter, the first of them -/
def ltr (i : Nat) : Str := ⟨#[97 + i]⟩
def lts (n : Nat) : Str := ⟨((List.range n).map fun i => 97 + i).toArray⟩
theorem lts_size (n : Nat) : (lts n).cps.size = n := by simp [lts]
theorem lts_at {n i : Nat} (h : i < n) : (lts n).cps[i]? = some (97 + i) := by simp [lts, h]
theorem lts_at2 {n i : Nat} (h : i < n) : (lts n).cps.toList[i]? = some (97 + i) := by simp [lts, h]
theorem cut_abch {n : Nat} (h : n ≤ 8) : cutS ("abcdefgh" : Str) none (some (n : Int)) = lts n := by
  rcases (by omega : n = 0 ∨ n = 1 ∨ n = 2 ∨ n = 3 ∨ n = 4 ∨ n = 5 ∨ n = 6 ∨ n = 7 ∨ n = 8) with z | z | z | z | z | z | z | z | z <;> subst z <;> decide +kernel
theorem ltr_lt (a b : Nat) : ltS (ltr a) (ltr b) = decide (a < b) := by
  have : ((ltr a).cps.toList < (ltr b).cps.toList) ↔ a < b := by
    show ([97 + a] < [97 + b]) ↔ a < b
    rw [List.cons_lt_cons_iff]
    simp
  unfold ltS
  exact decide_eq_decide.mpr this
theorem ltr_inj {a b : Nat} (h : ltr a = ltr b) : a = b := by
  have : (ltr a).cps[0]? = (ltr b).cps[0]? := by rw [h]
  have h2 : some (97 + a) = some (97 + b) := this
  have := Option.some.inj h2
  omega
theorem ltCps_ltr (a b : Nat) : ltCps (ltr a).cps.toList (ltr b).cps.toList = decide (a < b) := by
  show ltCps [97 + a] [97 + b] = _
  by_cases h : a < b
  · rw [decide_eq_true h]
    simp [ltCps, h]
  · rw [decide_eq_false h]
    by_cases e : b < a
    · simp [ltCps]
      omega
    · have : a = b := by omega
      subst this
      simp [ltCps]
end Sd

/-! L05c: steps that are drawn, their def -/
namespace Sd
open PySem PySem.Spec PyProof.Rows L2 RZ RT
theorem rising_letters : ∀ (ws : List Nat) (w : Nat), risingS (ltr w) (ws.map ltr) = true → (w :: ws).Pairwise (· ≤ ·)
  | [], w, _ => List.pairwise_singleton _ _
  | x :: r, w, h => by
    have h' : (!ltCps (ltr x).cps.toList (ltr w).cps.toList && risingS (ltr x) (r.map ltr)) = true := h
    rw [ltCps_ltr, Bool.and_eq_true, Bool.not_eq_true'] at h'
    have ih := rising_letters r x h'.2
    have hwx : w ≤ x := by
      have := of_decide_eq_false h'.1
      omega
    refine List.pairwise_cons.mpr ⟨fun b hb => ?_, ih⟩
    rcases List.mem_cons.mp hb with z | z
    · rw [z]; exact hwx
    · exact Nat.le_trans hwx ((List.pairwise_cons.mp ih).1 b z)
theorem letters_of {ks : List Nat} {ys : List Str} (hp : ys.Perm (ks.map ltr)) : ∃ ws : List Nat, ys = ws.map ltr ∧ ws.Perm ks := by
  have all : ∀ y ∈ ys, ∃ k, y = ltr k := fun y hy => by
    obtain ⟨k, _, e⟩ := List.mem_map.mp (hp.mem_iff.mp hy)
    exact ⟨k, e.symm⟩
  have got : ∀ {ys : List Str}, (∀ y ∈ ys, ∃ k, y = ltr k) → ∃ ws : List Nat, ys = ws.map ltr := by
    intro ys
    induction ys with
    | nil => exact fun _ => ⟨[], rfl⟩
    | cons y ys ih =>
      intro h
      obtain ⟨k, rfl⟩ := h y List.mem_cons_self
      obtain ⟨ws, rfl⟩ := ih fun z hz => h z (List.mem_cons_of_mem _ hz)
      exact ⟨k :: ws, rfl⟩
  obtain ⟨ws, rfl⟩ := got all
  refine ⟨ws, rfl, ?_⟩
  have inv : ∀ l : List Nat, (l.map ltr).map (fun s => s.cps.getD 0 0 - 97) = l := fun l => by
    rw [List.map_map]
    conv => rhs; rw [← List.map_id l]
    refine List.map_congr_left fun k _ => ?_
    show (97 + k) - 97 = k
    omega
  have h2 := hp.map (fun s => s.cps.getD 0 0 - 97)
  rw [inv, inv] at h2
  exact h2
theorem sorted_letters {ks : List Nat} (h : ks.Pairwise (· < ·)) {ys : List Str} (hp : ys.Perm (ks.map ltr)) (hs : sortedS ys = true) : ys = ks.map ltr := by
  obtain ⟨ws, rfl, hw⟩ := letters_of hp
  have hpw : ws.Pairwise (· ≤ ·) := by
    cases ws with
    | nil => exact .nil
    | cons w ws => exact rising_letters ws w hs
  have e : ws = ks := List.Perm.eq_of_pairwise (le := (· ≤ ·)) (fun a b _ _ h1 h2 => Nat.le_antisymm h1 h2) hpw (h.imp fun h => Nat.le_of_lt h) hw
  rw [e]
theorem ltr_name {k : Nat} (h : k < 8) : isNameS (ltr k) = true := by
  rcases (by omega : k = 0 ∨ k = 1 ∨ k = 2 ∨ k = 3 ∨ k = 4 ∨ k = 5 ∨ k = 6 ∨ k = 7) with z | z | z | z | z | z | z | z <;> subst z <;> decide +kernel
theorem names_fol {ks : List Nat} (h : ks.Pairwise (· < ·)) (h3 : ks.length ≤ 3) (h8 : ∀ k ∈ ks, k < 8) : namesB (ks.map ltr) = true := by
  unfold namesB
  rw [Bool.and_eq_true]
  refine ⟨List.all_eq_true.mpr fun s hs => ?_, ?_⟩
  · obtain ⟨k, hk, rfl⟩ := List.mem_map.mp hs
    exact ltr_name (h8 k hk)
  · match ks, h, h3 with
    | [], _, _ => rfl
    | [a], _, _ => rfl
    | [a, b], h, _ =>
      have : a < b := by simpa using h
      simp [ascS, ltr_lt, this]
    | [a, b, c], h, _ =>
      have h' : (a < b ∧ a < c) ∧ b < c := by simpa using h
      simp [ascS, ltr_lt, h'.1.1, h'.2]
    | a :: b :: c :: d :: r, _, h3 => simp at h3
/-- the i-th step of those that are drawn -/
structure DrawnS (N : Nat) (ps : List Str) (i : Nat) (s : Stp) : Prop where
  name : s.name = ltr i
  page : ∀ p, s.page = some p → p ∈ ps
  fol : ∃ ks : List Nat, s.fol = ks.map ltr ∧ ks.Pairwise (· < ·) ∧ ks.length ≤ 3 ∧ ∀ k ∈ ks, k < N
def drawnB (N : Nat) (ps : List Str) (ss : List Stp) : Prop := ss.length = N ∧ ∀ (i : Nat) (s : Stp), ss[i]? = some s → DrawnS N ps i s
def spSome (c : Wd) : Sp := fun vs H Q _ => ∃ (p a : Addr) (n N : Nat) (ps : List Str), vs = [.ref p, .str (lts N), .ref a] ∧ Pot H p n ∧ n ≤ 2 ^ 29 ∧ 1 ≤ N ∧ N ≤ 8 ∧ SqT c.K H a (ps.map V.str) ∧ ps.length ≤ 4 ∧
  ∀ H' t ss, Go [p] H H' → Pot H' p (n + 100) → AreStps c.K H' t ss → drawnB N ps ss → Q (.ref t) H'
theorem eqv_nilL (r : List Str) : PyData.eqv (.list (r.map PyData.str)) (.list []) = r.isEmpty := by
  cases r with
  | nil => rfl
  | cons a b => rfl
theorem sh_list {ss : List Str} (h : okS ss = true) : SeqAt.shaped (.list (ss.map PyData.str)) = true := by
  have e1 : (PyData.list (ss.map PyData.str)).canLay0 = true := lay_names h
  have e2 : (PyData.list (ss.map PyData.str)).depth = 1 := dep_names ss
  unfold SeqAt.shaped
  rw [e1, e2]
  decide
theorem ltrs_ok {ks : List Nat} (h : ∀ k ∈ ks, k < 8) : okS (ks.map ltr) = true := List.all_eq_true.mpr fun s hs => by
  obtain ⟨k, hk, rfl⟩ := List.mem_map.mp hs
  exact name_ok (ltr_name (h k hk))
theorem ne_pot {H : Hp} {p l : Addr} {n : Nat} {ss : List Str} (hp : Pot H p n) (hl : H l = some (.lst (ss.map V.str))) : l ≠ p := fun e => by
  obtain ⟨a, b, k, h1, _⟩ := hp
  rw [e, h1] at hl
  cases ss with
  | nil => cases hl
  | cons x xs =>
    have h2 := HO.lst.inj (Option.some.inj hl)
    rw [List.map_cons] at h2
    cases (List.cons.inj h2).1
theorem pick_later {c : Wd} {D : Ends} {H : Hp} {p lt : Addr} {N i cnt : Nat} {z2 z3 x5 z7 z8 : Option V} {ks : List Nat} (hu : True) (n8 : N ≤ 8) (hi : i < N) (hp : Pot H p cnt) (hc : cnt ≤ 2 ^ 29 + 200)
    (hl : H lt = some (.lst ((ks.map ltr).map V.str))) (pw : ks.Pairwise (· < ·)) (kN : ∀ k ∈ ks, k < N)
    (rest : ∀ (H' : Hp) (lx : Addr) (ks' : List Nat), Go [p] H H' → Pot H' p (cnt + 2) → H' lx = some (.lst ((ks'.map ltr).map V.str)) → ks'.Pairwise (· < ·) → (∀ k ∈ ks', k < N) →
      D.nx [some (.ref p), some (.str (lts N)), z2, z3, some (.int (i : Int)), x5, some (.ref lx), z7, z8] H') :
    tIfS (tAnd (tTest (tOp (rEqU c.K) (tVar 6) (tLst tNil))) (tOr (tTest (tOp (rEqU c.K) (tVar 4) (tC (V.int 0)))) (tTest (tOp rGtU (tCall spTake [] E0 (tCons (tVar 0) (tCons (tC (V.int 5)) tNil))) (tC (V.int 0))))))
      (tAsg (tLst (tCons (tIx c.K (tVar 1) (tOp rModU (tCB rIntU (tCons (tOp (rAddU c.K) (tOp (rAddU c.K) (tVar 4) (tC (V.int 1))) (tCall spTake [] E0 (tCons (tVar 0) (tCons (tCB (rLenU c.K) (tCons (tVar 1) tNil)) tNil)))) tNil)) (tCB (rLenU c.K) (tCons (tVar 1) tNil)))) tNil)) (gName 6)) tNext
      D [some (.ref p), some (.str (lts N)), z2, z3, some (.int (i : Int)), x5, some (.ref lt), z7, z8] H := by
  have k8 : ∀ k ∈ ks, k < 8 := fun k hk => Nat.lt_of_lt_of_le (kN k hk) n8
  have ltp := ne_pot hp hl
  have dpL : ∀ H5, Go [] H H5 → Dp c.K H5 (.ref lt) (.list ((ks.map ltr).map PyData.str)) := fun H5 g => .lst (SqL.of (g.old lt _ (fun z => nomatch z) hl)) (DpAll.strs _)
  have lsz : (lts N).length ≤ sizeLine := by
    show (lts N).cps.size ≤ sizeLine
    rw [lts_size, sizeLine_eq]
    omega
  have lln : (lts N).length = N := lts_size N
  -- a letter further on
  have body : ∀ H5, Go [p] H H5 → Pot H5 p (cnt + 1) → (tAsg (tLst (tCons (tIx c.K (tVar 1) (tOp rModU (tCB rIntU (tCons (tOp (rAddU c.K) (tOp (rAddU c.K) (tVar 4) (tC (V.int 1))) (tCall spTake [] E0 (tCons (tVar 0) (tCons (tCB (rLenU c.K) (tCons (tVar 1) tNil)) tNil)))) tNil)) (tCB (rLenU c.K) (tCons (tVar 1) tNil)))) tNil)) (gName 6))
      D [some (.ref p), some (.str (lts N)), z2, z3, some (.int (i : Int)), x5, some (.ref lt), z7, z8] H5 := by
    intro H5 g5 hp5
    refine .inl ⟨_, rfl, _, rfl, r_addI ⟨_, rfl, _, rfl, r_nil (r_lenS lsz (r_nil ⟨p, cnt + 1, N, by rw [lln]; rfl, hp5, by omega, by omega, by omega, fun r H6 hr6 g6 hp6 => r_addI (r_nil (.inl ⟨_, rfl, _, rfl, r_nil (r_lenS lsz ?_)⟩))⟩))⟩⟩
    rw [lln]
    refine r_mod (by omega) fun z z0 z1 ez => ?_
    have hz : z = (((i + 1 + r) % N : Nat) : Int) := by
      rw [ez, Int.natCast_emod, Int.natCast_add, Int.natCast_add]
      rfl
    subst hz
    have hlt : (i + 1 + r) % N < N := Nat.mod_lt _ (by omega)
    refine .inr (.inr ⟨lts N, _, 97 + (i + 1 + r) % N, rfl, rfl, lsz, atI_nat (lts_at2 hlt), ?_⟩)
    refine r_nil ⟨by show 1 ≤ sizeLine; decide, fun lx flx => ?_⟩
    have gx : Go [] H6 (upd H6 lx (.lst [.str (ltr ((i + 1 + r) % N))])) := Go.new flx
    exact rest _ lx [(i + 1 + r) % N] (g5.trans (g6.trans gx.wide)) (hp6.go gx) upd_same (List.pairwise_singleton _ _) (fun k hk => by rw [List.mem_singleton.mp hk]; exact hlt)
  refine ⟨_, rfl, Nat.zero_le _, fun e0 fe0 => .inr ⟨_, .list [], dpL _ (Go.new fe0), .lst (SqL.of upd_same) .nil, sh_list (ltrs_ok k8), by decide, ?_⟩⟩
  rw [eqv_nilL]
  have ge : Go [] H (upd H e0 (.lst [])) := Go.new fe0
  have hpe := hp.go ge
  have l5e := ge.old lt _ (fun z => nomatch z) hl
  generalize (upd H e0 (.lst [])) = H5 at ge hpe l5e ⊢
  refine ⟨_, rfl, ?_⟩
  by_cases hks : ks = []
  · have hemp : (ks.map ltr).isEmpty = true := by rw [hks]; rfl
    rw [hemp]
    refine (if_pos rfl).mpr ⟨_, rfl, .inl ⟨rfl, _, rfl, ?_⟩⟩
    by_cases hi0 : i = 0
    · exact (if_pos (decide_eq_true (by rw [hi0]; rfl))).mpr ((if_pos rfl).mpr (body H5 ge.wide (hpe.up (by omega))))
    · refine (if_neg fun z => hi0 (Int.ofNat.inj (V.int.inj (of_decide_eq_true z)))).mpr ?_
      refine ⟨_, rfl, p, cnt, 5, rfl, hpe, by omega, by decide, by decide, fun r H6 hr6 g6 hp6 => r_gtI ⟨_, rfl, ?_⟩⟩
      by_cases hr0 : 0 < r
      · exact (if_pos (decide_eq_true (by omega))).mpr (body H6 (ge.wide.trans g6) hp6)
      · refine (if_neg (by rw [decide_eq_false (by omega)]; simp)).mpr ?_
        exact rest H6 lt ks (ge.wide.trans g6) (hp6.up (by omega)) (g6.old lt _ (by simpa using ltp) l5e) pw kN
  · have hemp : (ks.map ltr).isEmpty = false := by
      cases ks with
      | nil => exact absurd rfl hks
      | cons a b => rfl
    rw [hemp]
    exact (if_neg (by decide)).mpr ((if_neg (by decide)).mpr (rest H5 lt ks ge.wide (hpe.up (by omega)) l5e pw kN))
section
variable {c : Wd}
abbrev s__law_some_steps : Stmt := topS 51
abbrev N__law_some_steps : List Str := ["_law_pot", "_law_letters", "_law_pages", "_law_found", "_law_at", "_law_letter", "_law_later_here", "_law_other", "_law_touched_here"]
abbrev P__law_some_steps : List Str := ["_law_pot", "_law_letters", "_law_pages"]
theorem sc__law_some_steps : FnScope N__law_some_steps P__law_some_steps (defScope s__law_some_steps) := ⟨rfl, rfl, rfl, by decide +kernel, rfl, by decide +kernel, by decide +kernel⟩
theorem ok_some_steps (F : At c "_law_some_steps" "_law_some_steps" s__law_some_steps P__law_some_steps) (B : Bi c) (D__law_take : Ok c "_law_take" 1 P__law_take spTake) (D__law_of : Ok c "_law_of" 2 P__law_of (spDrawn c)) :
    Ok c "_law_some_steps" 3 P__law_some_steps (spSome c) := by
  refine Ok.of F sc__law_some_steps (fun vs H Q E h => ?_) (fun f cdv A out s H vs Q E hr h => ?_)
  · obtain ⟨p, a, n, N, ps, rfl, _⟩ := h
    rfl
  · obtain ⟨p, a, n, N, ps, rfl, hp, hn, n1, n8, ha, hl, q⟩ := h
    have hu1 := hu_of hr
    have hu := hr.units
    have hu5 := hr.u5
    refine ⟨_, (pss_cons (ps_set (i := 3) sc__law_some_steps.nd rfl (by first | exact Or.inl rfl | exact Or.inr rfl) (pe_lst pa_nil))
    (pss_cons (ps_for PassesOwn.never rfl (pi_enumU (by rfl) B.enumerate (pa_cons (pv 1) pa_nil)) (pg_tupU (K := c.K) (n := 2) rfl (pgs_cons (pg_name (i := 4) sc__law_some_steps.nd rfl (by first | exact Or.inl rfl | exact Or.inr rfl)) (pgs_cons (pg_name (i := 5) sc__law_some_steps.nd rfl (by first | exact Or.inl rfl | exact Or.inr rfl)) pgs_nil))) (pss_cons (ps_set (i := 6) sc__law_some_steps.nd rfl (by first | exact Or.inl rfl | exact Or.inr rfl) (pe_lst pa_nil))
    (pss_cons (ps_for PassesOwn.never rfl (pi_seq (K := c.K) (pv 1)) (pg_name (i := 7) sc__law_some_steps.nd rfl (by first | exact Or.inl rfl | exact Or.inr rfl)) (pss_one (ps_expr (pe_bm PySem.F.plainAttrs_list PySem.F.slot_list_extend PySem.F.type_list_extend mt_extend (pv 6) (pa_cons (pe_op op_mulU (pe_lst (pa_cons (pv 7) pa_nil)) (pe_callTy call_intU (by rfl) B.int (by decide +kernel) (pa_cons (pe_cmpR (op_eqU (K := c.K) hu) (pe_f D__law_take (hr.mono (by decide)) (by rfl) (pa_cons (pv 0) (pa_cons pe_int pa_nil))) pe_int (nomark _)) pa_nil))) pa_nil)))))
    (pss_cons (ps_if (PW.pt (pw_and (pt_cmpR (op_eqU (K := c.K) hu) (pv 6) (pe_lst pa_nil) (nomark _)) (pw_and1 (PW.pt (pw_or (pt_cmpR (op_eqU (K := c.K) hu) (pv 4) pe_int (nomark _)) (pw_or1 (pt_cmpR op_gtU (pe_f D__law_take (hr.mono (by decide)) (by rfl) (pa_cons (pv 0) (pa_cons pe_int pa_nil))) pe_int (nomark _)))))))) (pss_one (ps_set (i := 6) sc__law_some_steps.nd rfl (by first | exact Or.inl rfl | exact Or.inr rfl) (pe_lst (pa_cons (pe_ixU (K := c.K) hu1 (pv 1) (pe_op op_modU (pe_callTy call_intU (by rfl) B.int (by decide +kernel) (pa_cons (pe_op (op_addU (K := c.K)) (pe_op (op_addU (K := c.K)) (pv 4) pe_int) (pe_f D__law_take (hr.mono (by decide)) (by rfl) (pa_cons (pv 0) (pa_cons (pe_callB (call_lenU (K := c.K)) (by rfl) B.len (by decide +kernel) (pa_cons (pv 1) pa_nil)) pa_nil)))) pa_nil)) (pe_callB (call_lenU (K := c.K)) (by rfl) B.len (by decide +kernel) (pa_cons (pv 1) pa_nil))) (fun _ _ => rfl) (fun _ _ => rfl)) pa_nil)))) pss_nil)
    (pss_cons (ps_set (i := 8) sc__law_some_steps.nd rfl (by first | exact Or.inl rfl | exact Or.inr rfl) (pe_f D__law_of (hr.mono (by decide)) (by rfl) (pa_cons (pv 0) (pa_cons (pe_op (op_addU (K := c.K)) (pe_op (op_addU (K := c.K)) (pe_callTy (call_lstU (K := c.K)) (by rfl) B.list (by decide +kernel) (pa_cons (pv 2) pa_nil)) (pe_callTy (call_lstU (K := c.K)) (by rfl) B.list (by decide +kernel) (pa_cons (pv 2) pa_nil))) (pe_lst (pa_cons pe_non pa_nil))) pa_nil))))
    (pss_one (ps_expr (pe_bm PySem.F.plainAttrs_list PySem.F.slot_list_append PySem.F.type_list_append mt_append (pv 3) (pa_cons (pe_tup (pa_cons (pv 5) (pa_cons (pv 8) (pa_cons (pe_callTy (call_tupU (K := c.K)) (by rfl) B.tuple (by decide +kernel) (pa_cons (pe_callB (call_sortU (K := c.K)) (by rfl) B.sorted (by decide +kernel) (pa_cons (pe_slice (sl_U (K := c.K)) (pv 6) po_none (po_some pe_int)) pa_nil)) pa_nil)) pa_nil)))) pa_nil)))))))))
    (pss_one (ps_ret (pe_callTy (call_tupU (K := c.K)) (by rfl) B.tuple (by decide +kernel) (pa_cons (pv 3) pa_nil)))))), ?_⟩
    dsimp only [tNext, tSeq, tAsg, tLst, tNil]
    refine ⟨Nat.zero_le _, fun t ft => ?_⟩
    obtain ⟨pa, pb, pk, hpp, _⟩ := id hp
    have ntp : t ≠ p := fun e => by rw [e, hpp] at ft; cases ft
    refine .inr ⟨_, rfl, lts N, rfl, ?_⟩
    refine for_it walk_enumS (fun i σ H' => Go [p] H H' ∧ Pot H' p (n + 12 * i) ∧ ∃ (vs : List V) (z4 z5 z6 z7 z8 : Option V) (ss : List Stp), H' t = some (.lst vs) ∧ vs.length = i ∧ ss.length = i ∧
      (∀ (j : Nat) (v : V) (s : Stp), vs[j]? = some v → ss[j]? = some s → IsStp c.K H' s v ∧ DrawnS N ps j s) ∧
      σ = [some (.ref p), some (.str (lts N)), some (.ref a), some (.ref t), z4, z5, z6, z7, z8]) ?_ (fun _ _ _ _ _ => trivial) ?_ ?_
    · exact ⟨Go.new ft, hp.go (Go.new ft), [], _, _, _, _, _, [], upd_same, rfl, rfl, fun j v s e => by simp at e, rfl⟩
    · rintro i x σ H2 H3 hi ⟨g2, hp2, vs, z4, z5, z6, z7, z8, ss, k1, k2, k3, k4, rfl⟩ ⟨T, x1, x2, rfl, fT, rfl, hx1, hx2⟩
      rw [lts_size] at hi
      cases hx1
      have e2 : x2 = .str (ltr i) := by
        have h2 : ((lts N).cps[i]?).map (fun c => V.str ⟨#[c]⟩) = some x2 := hx2
        rw [lts_at hi] at h2
        exact (Option.some.inj h2).symm
      subst e2
      have g3 : Go [] H2 (upd H2 T (.tup [.int ((i : Nat) : Int), .str (ltr i)])) := Go.new fT
      refine ⟨T, _, rfl, SqT.of upd_same, rfl, ?_⟩
      refine ⟨_, _, rfl, _, _, rfl, rfl, ?_⟩
      generalize (upd H2 T (.tup [.int ((i : Nat) : Int), .str (ltr i)])) = H3 at g3 ⊢
      dsimp only [tNext, tSeq, tAsg, tLst, tNil]
      refine ⟨Nat.zero_le _, fun lt flt => ?_⟩
      have ltp : lt ≠ p := fun e => by
        obtain ⟨_, _, _, e1, _⟩ := hp2.go g3
        rw [e, e1] at flt
        cases flt
      have hp3 := hp2.go g3
      have k13 := g3.old t _ (fun z => nomatch z) k1
      have ltt : lt ≠ t := fun e => by rw [e, k13] at flt; cases flt
      have g4 : Go [] H3 (upd H3 lt (.lst [])) := Go.new flt
      have flt0 : H lt = none := by
        cases e : H lt with
        | none => rfl
        | some o =>
          have := (g2.trans g3.wide).old lt o (by simpa using ltp) e
          rw [this] at flt
          cases flt
      refine .inr ⟨_, rfl, lts N, rfl, ?_⟩
      refine for_it (walk_sg (z := lts N)) (fun j σ H' => Go [p] H H' ∧ Pot H' p (n + 12 * i + j) ∧ H' t = some (.lst vs) ∧ (∀ (u : Nat) (v : V) (s : Stp), vs[u]? = some v → ss[u]? = some s → IsStp c.K H' s v ∧ DrawnS N ps u s) ∧
        ∃ (ks : List Nat) (y7 : Option V), H' lt = some (.lst ((ks.map ltr).map V.str)) ∧ ks.Pairwise (· < ·) ∧ (∀ k ∈ ks, k < j) ∧ ks.length ≤ j ∧ σ = [some (.ref p), some (.str (lts N)), some (.ref a), some (.ref t), some (.int ((i : Nat) : Int)), some (.str (ltr i)), some (.ref lt), y7, z8]) ?_ (fun _ _ _ _ _ => trivial) ?_ ?_
      · exact ⟨(g2.trans g3.wide).trans g4.wide, hp3.go g4, g4.old t _ (fun z => nomatch z) k13, fun u v s e1 e2 => ⟨((k4 u v s e1 e2).1.go g3).go g4, (k4 u v s e1 e2).2⟩, [], _, upd_same, .nil, (fun k hk => nomatch hk), Nat.le_refl _, rfl⟩
      · rintro j y σ H4 H5 hj ⟨g5, hp4, m1, m4, ks, y7, m5, m6, m7, m8, rfl⟩ ⟨rfl, cc, hcc, rfl⟩
        rw [lts_size] at hj
        rw [lts_at hj] at hcc
        cases hcc
        refine ⟨_, rfl, .inl ⟨rfl, _, SqL.of m5⟩, _, rfl, by show 1 ≤ sizeLine; decide, fun b1 fb1 => ?_⟩
        have gb1 : Go [] H5 (upd H5 b1 (.lst [.str (ltr j)])) := Go.new fb1
        have hb1 : (upd H5 b1 (.lst [.str (ltr j)])) b1 = some (.lst [.str (ltr j)]) := upd_same
        have b1p : b1 ≠ p := fun e => by
          obtain ⟨_, _, _, e1, _⟩ := id hp4
          rw [e, e1] at fb1
          cases fb1
        refine ⟨_, rfl, p, n + 12 * i + j, 3, rfl, hp4.go gb1, by omega, by decide, by decide, fun r H6 hr6 g6 hp6 => .inl ⟨rfl, .inr ⟨_, rfl, ?_⟩⟩⟩
        have hb16 := g6.old b1 _ (by simpa using b1p) hb1
        have eu : (if decide (V.int (r : Int) = V.int 0) = true then (1 : Int) else 0) = ((if r = 0 then 1 else 0 : Nat) : Int) := by
          by_cases h0 : r = 0
          · rw [if_pos h0, h0]
            rfl
          · have nz : ¬ V.int (r : Int) = V.int 0 := fun z => h0 (Int.ofNat.inj (V.int.inj z))
            rw [if_neg h0, decide_eq_false nz]
            rfl
        rw [eu]
        obtain ⟨u, hu'⟩ : ∃ u : Nat, u = if r = 0 then 1 else 0 := ⟨_, rfl⟩
        rw [← hu']
        have u1 : u ≤ 1 := by
          rw [hu']
          split <;> omega
        refine .inr ⟨b1, (u : Int), [.str (ltr j)], rfl, rfl, hb16, by omega, by omega, by rw [sizeLine_eq]; simp; omega, fun b2 fb2 => ?_⟩
        have el : (List.replicate ((u : Int)).toNat [V.str (ltr j)]).flatten = ((if u = 0 then [] else [j]).map ltr).map V.str := by
          rw [Int.toNat_natCast]
          rcases (by omega : u = 0 ∨ u = 1) with z | z <;> rw [z] <;> rfl
        rw [el]
        have gb2 : Go [] H6 (upd H6 b2 (.lst (((if u = 0 then [] else [j]).map ltr).map V.str))) := Go.new fb2
        have hb2 : (upd H6 b2 (.lst (((if u = 0 then [] else [j]).map ltr).map V.str))) b2 = some (.lst (((if u = 0 then [] else [j]).map ltr).map V.str)) := upd_same
        have G : Go [p] H5 (upd H6 b2 (.lst (((if u = 0 then [] else [j]).map ltr).map V.str))) := gb1.wide.trans (g6.trans gb2.wide)
        have hp7 := hp6.go gb2
        generalize (upd H6 b2 (.lst (((if u = 0 then [] else [j]).map ltr).map V.str))) = H7 at hb2 G hp7 ⊢
        have lt7 := G.old lt _ (by simpa using ltp) m5
        have t7 := G.old t _ (by simpa using ntp) m1
        have le1 : (if u = 0 then [] else [j]).length ≤ 1 := by split <;> simp
        refine r_nil ⟨lt, b2, _, _, rfl, rfl, lt7, hb2, by simp only [List.length_map]; rw [sizeLine_eq]; omega, ?_⟩
        have gp : Go [lt] H7 (upd H7 lt (.lst ((ks.map ltr).map V.str ++ ((if u = 0 then [] else [j]).map ltr).map V.str))) := Go.put lt7 rfl (List.Mem.head _)
        refine ⟨(g5.trans G).mut flt0, ?_, ?_, fun w v s e1 e2 => ⟨((m4 w v s e1 e2).1.go G).go gp, (m4 w v s e1 e2).2⟩, ks ++ (if u = 0 then [] else [j]), _, ?_, ?_, ?_, ?_, rfl⟩
        · obtain ⟨a1, a2, a3, a4, a5⟩ := hp7
          exact ⟨a1, a2, a3, by rw [upd_ne ltp.symm]; exact a4, by omega⟩
        · rw [upd_ne ltt.symm]
          exact t7
        · rw [List.map_append, List.map_append]
          exact upd_same
        · split
          · rw [List.append_nil]
            exact m6
          · refine List.pairwise_append.mpr ⟨m6, List.pairwise_singleton _ _, fun x hx y hy => ?_⟩
            rw [List.mem_singleton.mp hy]
            exact m7 x hx
        · intro k hk
          rcases List.mem_append.mp hk with z | z
          · exact Nat.lt_succ_of_lt (m7 k z)
          · split at z
            · cases z
            · rw [List.mem_singleton.mp z]
              exact Nat.lt_succ_self _
        · rw [List.length_append]
          omega
      · rintro σ H4 ⟨g5, hp4, m1, m4, ks, y7, m5, m6, m7, m8, rfl⟩
        rw [lts_size] at hp4 m7 m8
        refine pick_later (c := c) trivial n8 hi hp4 (by omega) m5 m6 m7 fun H5 lx ks2 gx hpx hlx pwx kNx => ?_
        have g05 := g5.trans gx
        have t5 := gx.old t _ (by simpa using ntp) m1
        have m5x : ∀ (u : Nat) (v : V) (s : Stp), vs[u]? = some v → ss[u]? = some s → IsStp c.K H5 s v ∧ DrawnS N ps u s := fun u v s e1 e2 => ⟨(m4 u v s e1 e2).1.go gx, (m4 u v s e1 e2).2⟩
        have lxp := ne_pot hpx hlx
        have ha5 := g05.sqT ha
        have len5 : (ps.map V.str).length = ps.length := by simp
        refine ⟨_, rfl, _, rfl, a, _, rfl, .inr ha5, fun l1 fl1 => ⟨_, rfl, a, _, rfl, .inr ((Go.new (M := []) fl1).sqT ha5), fun l2 fl2 => ?_⟩⟩
        have h1 : (upd (upd H5 l1 (.lst (ps.map V.str))) l2 (.lst (ps.map V.str))) l1 = some (.lst (ps.map V.str)) := (Go.new (M := []) fl2).old l1 _ (fun z => nomatch z) upd_same
        have gl : Go [] H5 (upd (upd H5 l1 (.lst (ps.map V.str))) l2 (.lst (ps.map V.str))) := (Go.new fl1).trans (Go.new fl2)
        have h2 : (upd (upd H5 l1 (.lst (ps.map V.str))) l2 (.lst (ps.map V.str))) l2 = some (.lst (ps.map V.str)) := upd_same
        generalize (upd (upd H5 l1 (.lst (ps.map V.str))) l2 (.lst (ps.map V.str))) = H6 at h1 gl h2 ⊢
        refine .inr (.inl ⟨l1, l2, _, _, rfl, rfl, h1, h2, by rw [len5, sizeLine_eq]; omega, fun l3 fl3 => ⟨by show 1 ≤ sizeLine; decide, fun l4 fl4 => ?_⟩⟩)
        have h3 : (upd (upd H6 l3 (.lst (ps.map V.str ++ ps.map V.str))) l4 (.lst [.non])) l3 = some (.lst (ps.map V.str ++ ps.map V.str)) := (Go.new (M := []) fl4).old l3 _ (fun z => nomatch z) upd_same
        have gl2 : Go [] H6 (upd (upd H6 l3 (.lst (ps.map V.str ++ ps.map V.str))) l4 (.lst [.non])) := (Go.new fl3).trans (Go.new fl4)
        have h4 : (upd (upd H6 l3 (.lst (ps.map V.str ++ ps.map V.str))) l4 (.lst [.non])) l4 = some (.lst [.non]) := upd_same
        generalize (upd (upd H6 l3 (.lst (ps.map V.str ++ ps.map V.str))) l4 (.lst [.non])) = H7 at h3 gl2 h4 ⊢
        refine .inr (.inl ⟨l3, l4, _, _, rfl, rfl, h3, h4, by rw [List.length_append, len5, sizeLine_eq]; simp; omega, fun l5 fl5 => ?_⟩)
        have gl3 : Go [] H7 (upd H7 l5 (.lst ((ps.map V.str ++ ps.map V.str) ++ [.non]))) := Go.new fl5
        have h5 : (upd H7 l5 (.lst ((ps.map V.str ++ ps.map V.str) ++ [.non]))) l5 = some (.lst ((ps.map V.str ++ ps.map V.str) ++ [.non])) := upd_same
        have g58 := gl.trans (gl2.trans gl3)
        have n5p : l5 ≠ p := fun e => by
          obtain ⟨_, _, _, e1, _⟩ := (hpx.go gl).go gl2
          rw [e, e1] at fl5
          cases fl5
        generalize (upd H7 l5 (.lst ((ps.map V.str ++ ps.map V.str) ++ [.non]))) = H8 at h5 g58 ⊢
        refine r_nil ⟨p, l5, n + 12 * i + N + 2, _, rfl, hpx.go g58, by omega, by simp, by rw [List.length_append, List.length_append, len5]; simp; omega, .inl ⟨n5p, h5⟩, fun r v H9 hv g9 hp9 => ?_⟩
        obtain ⟨pg, rfl, hpg⟩ : ∃ pg : Option Str, v = pgV pg ∧ ∀ q, pg = some q → q ∈ ps := by
          have hm := List.mem_of_getElem? hv
          have in_ps : v ∈ ps.map V.str → ∃ pg : Option Str, v = pgV pg ∧ ∀ q, pg = some q → q ∈ ps := fun z => by
            obtain ⟨q, hq, rfl⟩ := List.mem_map.mp z
            exact ⟨some q, rfl, fun q' e => by rw [← Option.some.inj e]; exact hq⟩
          rcases List.mem_append.mp hm with z | z
          · rcases List.mem_append.mp z with z | z
            · exact in_ps z
            · exact in_ps z
          · exact ⟨none, List.mem_singleton.mp z, fun q e => nomatch e⟩
        have g59 : Go [p] H5 H9 := g58.wide.trans g9
        have t9 := g59.old t _ (by simpa using ntp) t5
        have lx9 := g59.old lx _ (by simpa using lxp) hlx
        refine ⟨_, rfl, .inl ⟨rfl, _, SqL.of t9⟩, _, rfl, _, rfl, _, rfl, 3, rfl, r_slL (SqL.of lx9) fun b3 H10 fb3 gb3 hb3 => ?_⟩
        have ec : cutV ((ks2.map ltr).map V.str) none (some (3 : Int)) = ((ks2.take 3).map ltr).map V.str := by
          have := cut_to (xs := (ks2.map ltr).map V.str) 3
          rw [List.map_take, List.map_take]
          exact this
        rw [ec] at hb3
        have pw3 : (ks2.take 3).Pairwise (· < ·) := pwx.sublist (List.take_sublist 3 ks2)
        have k3l : (ks2.take 3).length ≤ 3 := by rw [List.length_take]; omega
        have k3N : ∀ k ∈ ks2.take 3, k < N := fun k hk => kNx k (List.mem_of_mem_take hk)
        generalize ks2.take 3 = ks3 at hb3 pw3 k3l k3N
        refine r_nil ⟨b3, ks3.map ltr, rfl, SqL.of hb3, by rw [List.length_map]; omega, fun ys sq hperm hsort fsq => ?_⟩
        obtain rfl := sorted_letters pw3 hperm hsort
        have gs : Go [] H10 (upd H10 sq (.lst ((ks3.map ltr).map V.str))) := Go.new fsq
        refine r_nil ⟨sq, _, rfl, .inl ⟨SqL.of upd_same, fun fw ffw => r_nil ⟨by show 3 ≤ sizeLine; decide, fun stA fstA => r_nil ?_⟩⟩⟩
        have gw : Go [] (upd H10 sq (.lst ((ks3.map ltr).map V.str))) (upd (upd H10 sq (.lst ((ks3.map ltr).map V.str))) fw (.tup ((ks3.map ltr).map V.str))) := Go.new ffw
        have gst : Go [] (upd (upd H10 sq (.lst ((ks3.map ltr).map V.str))) fw (.tup ((ks3.map ltr).map V.str))) (upd (upd (upd H10 sq (.lst ((ks3.map ltr).map V.str))) fw (.tup ((ks3.map ltr).map V.str))) stA (.tup [.str (ltr i), pgV pg, .ref fw])) := Go.new fstA
        have hfw : SqT c.K (upd (upd H10 sq (.lst ((ks3.map ltr).map V.str))) fw (.tup ((ks3.map ltr).map V.str))) fw ((ks3.map ltr).map V.str) := SqT.of upd_same
        have g9z : Go [] H9 _ := gb3.trans (gs.trans (gw.trans gst))
        have hst : IsStp c.K (upd (upd (upd H10 sq (.lst ((ks3.map ltr).map V.str))) fw (.tup ((ks3.map ltr).map V.str))) stA (.tup [.str (ltr i), pgV pg, .ref fw])) ⟨ltr i, pg, ks3.map ltr⟩ (.ref stA) := ⟨stA, fw, rfl, SqT.of upd_same, gst.sqT hfw⟩
        generalize (upd (upd (upd H10 sq (.lst ((ks3.map ltr).map V.str))) fw (.tup ((ks3.map ltr).map V.str))) stA (.tup [.str (ltr i), pgV pg, .ref fw])) = H13 at g9z hst ⊢
        have t13 := g9z.old t _ (fun z => nomatch z) t9
        have ft0 : H t = none := ft
        refine ⟨t, vs, .ref stA, rfl, rfl, t13, by rw [sizeLine_eq]; omega, ?_⟩
        have gp : Go [t] H13 (upd H13 t (.lst (vs ++ [.ref stA]))) := Go.put t13 rfl (List.Mem.head _)
        have g5z : Go [p] H5 H13 := g59.trans g9z.wide
        have hp13 := (hp9.go g9z)
        refine ⟨(g05.trans g5z).mut ft0, ?_, vs ++ [.ref stA], _, _, _, _, _, ss ++ [⟨ltr i, pg, ks3.map ltr⟩], upd_same, by simp [k2], by simp [k3], fun j v s e1 e2 => ?_, rfl⟩
        · obtain ⟨a1, a2, a3, a4, a5⟩ := hp13
          exact ⟨a1, a2, a3, by rw [upd_ne ntp.symm]; exact a4, by omega⟩
        · by_cases hj : j < vs.length
          · rw [List.getElem?_append_left hj] at e1
            rw [List.getElem?_append_left (by omega)] at e2
            exact ⟨((m5x j v s e1 e2).1.go g5z).go gp, (m5x j v s e1 e2).2⟩
          · have hj2 : j = vs.length := by
              have := (List.getElem?_eq_some_iff.mp e1).1
              simp at this
              omega
            subst hj2
            have ev : v = .ref stA := by simpa using e1.symm
            have es : s = ⟨ltr i, pg, ks3.map ltr⟩ := by
              rw [List.getElem?_append_right (by omega), show vs.length - ss.length = 0 by omega] at e2
              simpa using e2.symm
            subst ev es
            refine ⟨hst.go gp, ⟨by rw [k2], fun q hq => hpg q hq, ks3, rfl, pw3, k3l, k3N⟩⟩
    · rintro σ H2 ⟨g2, hp2, vs, z4, z5, z6, z7, z8, ss, k1, k2, k3, k4, rfl⟩
      rw [lts_size] at hp2 k2 k3
      refine ⟨_, rfl, r_nil ⟨t, _, rfl, .inl ⟨SqL.of k1, fun b fb => ?_⟩⟩⟩
      have gb : Go [] H2 (upd H2 b (.tup vs)) := Go.new fb
      exact q _ b ss (g2.trans gb.wide) ((hp2.go gb).up (by omega)) ⟨vs, SqT.of upd_same, by omega, fun j v s e1 e2 => ((k4 j v s e1 e2).1).go gb⟩ ⟨k3, fun j s e => by
        obtain ⟨v, hv⟩ : ∃ v, vs[j]? = some v := ⟨_, List.getElem?_eq_getElem (by have := (List.getElem?_eq_some_iff.mp e).1; omega)⟩
        exact (k4 j v s hv e).2⟩
end
end Sd

/-! L05d: a drawn machine's data, as a dict -/
namespace Sd
open PySem PySem.Spec PyProof.Rows L2 RZ RT
def pqrs : List Str := [("p" : Str), ("q" : Str), ("r" : Str), ("s" : Str)]
/-- a machine that was drawn -/
structure DrawnM (m : Mac) : Prop where
  ex : ∃ np N k, m.pages = pqrs.take np ∧ 2 ≤ np ∧ np ≤ 4 ∧ 1 ≤ N ∧ N ≤ 8 ∧ drawnB N m.pages m.steps ∧ clockB m.clock = true ∧ m.move ≤ 9 ∧ 1 ≤ k ∧ k < np ∧ m.first ∈ setsL m.pages k
def loreK (a1 a2 a3 a5 : Addr) (mv : Nat) : List (Key × V) := [(.inr ("steps" : Str), .ref a1), (.inr ("clock" : Str), .ref a2), (.inr ("pages" : Str), .ref a3), (.inr ("move" : Str), .int (mv : Int)), (.inr ("first" : Str), .ref a5)]
/-- its data stand in a dict -/
structure LoreAt (K : PySem.W.Frag) (H : Hp) (d : Addr) (m : Mac) : Prop where
  ex : ∃ a1 a2 a3 a5, H d = some (.dK (loreK a1 a2 a3 a5 m.move)) ∧ AreStps K H a1 m.steps ∧ SqT K H a2 (intsV m.clock) ∧ SqT K H a3 (m.pages.map V.str) ∧ SqT K H a5 (m.first.map V.str)
theorem LoreAt.go {K : PySem.W.Frag} {M : List Addr} {H H' : Hp} {d : Addr} {m : Mac} (h : LoreAt K H d m) (g : Go M H H') (hd : d ∉ M) : LoreAt K H' d m := by
  obtain ⟨a1, a2, a3, a5, h1, h2, h3, h4, h5⟩ := h.ex
  exact ⟨a1, a2, a3, a5, g.old d _ hd h1, h2.go g, g.sqT h3, g.sqT h4, g.sqT h5⟩
theorem lore_merge (a1 a2 a3 a5 : Addr) (mv : Nat) : mergeK [] (loreK a1 a2 a3 a5 mv) = loreK a1 a2 a3 a5 mv := rfl
theorem pqrs_ok (n : Nat) : okS (pqrs.take n) = true := okS_sub (ps := pqrs) (by decide +kernel) fun p hp => List.mem_of_mem_take hp
theorem setsL_some : ∀ np k, 2 ≤ np → np ≤ 4 → 1 ≤ k → k < np → setsL (pqrs.take np) k ≠ [] := by
  intro np k h1 h2 h3 h4
  rcases (by omega : np = 2 ∨ np = 3 ∨ np = 4) with z | z | z <;> subst z
  · obtain rfl : k = 1 := by omega
    decide +kernel
  · rcases (by omega : k = 1 ∨ k = 2) with z | z <;> subst z <;> decide +kernel
  · rcases (by omega : k = 1 ∨ k = 2 ∨ k = 3) with z | z | z <;> subst z <;> decide +kernel
def spLore (c : Wd) : Sp := fun vs H Q _ => ∃ (p : Addr) (n ms mp tk rd : Nat), vs = [.ref p, .int (ms : Int), .int (mp : Int), .int (tk : Int), .int (rd : Int)] ∧ Pot H p n ∧ n ≤ 2 ^ 28 ∧ 2 ≤ ms ∧ ms ≤ 8 ∧ 2 ≤ mp ∧ mp ≤ 4 ∧ 1 ≤ tk ∧ tk ≤ 3 ∧ 1 ≤ rd ∧ rd ≤ 3 ∧
  ∀ H' d m, H d = none → Go [p] H H' → Pot H' p (n + 120) → LoreAt c.K H' d m → DrawnM m → m.move ≤ 3 → Q (.ref d) H'
section
variable {c : Wd}
abbrev s__law_lore : Stmt := topS 52
abbrev N__law_lore : List Str := ["_law_pot", "_law_many_steps", "_law_many_pages", "_law_ticks_here", "_law_rounds", "_law_pages", "_law_steps", "_law_clock", "_law_size", "_law_first", "_law_turn"]
abbrev P__law_lore : List Str := ["_law_pot", "_law_many_steps", "_law_many_pages", "_law_ticks_here", "_law_rounds"]
theorem sc__law_lore : FnScope N__law_lore P__law_lore (defScope s__law_lore) := ⟨rfl, rfl, rfl, by decide +kernel, rfl, by decide +kernel, by decide +kernel⟩
theorem ok_lore (F : At c "_law_lore" "_law_lore" s__law_lore P__law_lore) (B : Bi c) (D__law_take : Ok c "_law_take" 1 P__law_take spTake) (D__law_of : Ok c "_law_of" 2 P__law_of (spDrawn c)) (D__law_some_steps : Ok c "_law_some_steps" 3 P__law_some_steps (spSome c))
    (D__law_sets_of : Ok c "_law_sets_of" 1 P__law_sets_of (spSetsOf c)) : Ok c "_law_lore" 4 P__law_lore (spLore c) := by
  refine Ok.of F sc__law_lore (fun vs H Q E h => ?_) (fun f cdv A out s H vs Q E hr h => ?_)
  · obtain ⟨p, n, ms, mp, tk, rd, rfl, _⟩ := h
    rfl
  · obtain ⟨p, n, ms, mp, tk, rd, rfl, hp, hn, ms2, ms8, mp2, mp4, tk1, tk3, rd1, rd3, q⟩ := h
    have hu1 := hu_of hr
    have hu := hr.units
    refine ⟨_, (pss_cons (ps_set (i := 5) sc__law_lore.nd rfl (by first | exact Or.inl rfl | exact Or.inr rfl) (pe_callTy (call_tupU (K := c.K)) (by rfl) B.tuple (by decide +kernel) (pa_cons (pe_slice (sl_U (K := c.K)) (pe_lst (pa_cons pe_str (pa_cons pe_str (pa_cons pe_str (pa_cons pe_str pa_nil))))) po_none (po_some (pe_op (op_addU (K := c.K)) pe_int (pe_f D__law_take (hr.mono (by decide)) (by rfl) (pa_cons (pv 0) (pa_cons (pe_op op_subU (pv 2) pe_int) pa_nil)))))) pa_nil)))
    (pss_cons (ps_set (i := 6) sc__law_lore.nd rfl (by first | exact Or.inl rfl | exact Or.inr rfl) (pe_f D__law_some_steps (hr.mono (by decide)) (by rfl) (pa_cons (pv 0) (pa_cons (pe_slice (sl_U (K := c.K)) pe_str po_none (po_some (pe_op (op_addU (K := c.K)) pe_int (pe_f D__law_take (hr.mono (by decide)) (by rfl) (pa_cons (pv 0) (pa_cons (pe_op op_subU (pv 1) pe_int) pa_nil)))))) (pa_cons (pv 5) pa_nil)))))
    (pss_cons (ps_set (i := 7) sc__law_lore.nd rfl (by first | exact Or.inl rfl | exact Or.inr rfl) (pe_callTy (call_tupU (K := c.K)) (by rfl) B.tuple (by decide +kernel) (pa_cons (pe_lc (own := [("_law_turn", 10)]) rfl sc__law_lore.nd (pi_range1 (by rfl) B.range (pa_cons (pe_op (op_addU (K := c.K)) pe_int (pe_f D__law_take (hr.mono (by decide)) (by rfl) (pa_cons (pv 0) (pa_cons (pv 4) pa_nil)))) pa_nil)) (blkOk_by (N := N__law_lore) (sc := defScope s__law_lore) (by decide +kernel)) (fun _ _ _ _ _ => (pg_name (i := 10) sc__law_lore.nd rfl (by first | exact Or.inl rfl | exact Or.inr rfl))) (fun _ _ _ _ _ => pts_nil) (fun _ _ _ _ _ => (pe_op (op_addU (K := c.K)) pe_int (pe_f D__law_take (hr.mono (by decide)) (by rfl) (pa_cons (pv 0) (pa_cons (pv 3) pa_nil)))))) pa_nil)))
    (pss_cons (ps_set (i := 8) sc__law_lore.nd rfl (by first | exact Or.inl rfl | exact Or.inr rfl) (pe_op (op_addU (K := c.K)) pe_int (pe_f D__law_take (hr.mono (by decide)) (by rfl) (pa_cons (pv 0) (pa_cons (pe_op op_subU (pe_callB (call_lenU (K := c.K)) (by rfl) B.len (by decide +kernel) (pa_cons (pv 5) pa_nil)) pe_int) pa_nil)))))
    (pss_cons (ps_set (i := 9) sc__law_lore.nd rfl (by first | exact Or.inl rfl | exact Or.inr rfl) (pe_f D__law_of (hr.mono (by decide)) (by rfl) (pa_cons (pv 0) (pa_cons (pe_f D__law_sets_of (hr.mono (by decide)) (by rfl) (pa_cons (pv 5) (pa_cons (pv 8) pa_nil))) pa_nil))))
    (pss_one (ps_ret (pe_disp (pps_cons pe_str (pv 6) (pps_cons pe_str (pv 7) (pps_cons pe_str (pv 5) (pps_cons pe_str (pe_f D__law_of (hr.mono (by decide)) (by rfl) (pa_cons (pv 0) (pa_cons (pe_lst (pa_cons pe_int (pa_cons pe_int (pa_cons pe_int (pa_cons pe_int (pa_cons pe_int pa_nil)))))) pa_nil))) (pps_cons pe_str (pv 9) pps_nil))))) (by rfl) (by rfl) (fun z => by cases z) (by decide))))))))), ?_⟩
    refine ⟨by show 4 ≤ sizeLine; decide, fun l0 fl0 => ?_⟩
    have g0 : Go [] H (upd H l0 (.lst [.str ("p" : Str), .str ("q" : Str), .str ("r" : Str), .str ("s" : Str)])) := Go.new fl0
    have h0 : (upd H l0 (.lst [.str ("p" : Str), .str ("q" : Str), .str ("r" : Str), .str ("s" : Str)])) l0 = some (.lst (pqrs.map V.str)) := upd_same
    have n0p : l0 ≠ p := fun e => by
      obtain ⟨_, _, _, e1, _⟩ := id hp
      rw [e, e1] at fl0
      cases fl0
    generalize (upd H l0 (.lst [.str ("p" : Str), .str ("q" : Str), .str ("r" : Str), .str ("s" : Str)])) = H0 at g0 h0 ⊢
    refine ⟨_, rfl, _, rfl, r_subI ⟨p, n, mp - 1, by rw [show ((mp : Nat) : Int) - 1 = ((mp - 1 : Nat) : Int) by omega]; rfl, hp.go g0, by omega, by omega, by omega, fun r1 H1 hr1 g1 hp1 => r_addI ⟨_, rfl, ?_⟩⟩⟩
    obtain ⟨np, hnp⟩ : ∃ m, m = 2 + r1 := ⟨_, rfl⟩
    have h01 := g1.old l0 _ (by simpa using n0p) h0
    refine r_slL (SqL.of h01) fun l1 H2 fl1 gl1 hl1 => ?_
    have ec : cutV (pqrs.map V.str) none (some ((2 : Int) + (r1 : Int))) = (pqrs.take np).map V.str := by
      rw [show (2 : Int) + (r1 : Int) = ((2 + r1 : Nat) : Int) from rfl, ← hnp, List.map_take]
      exact cut_to np
    rw [ec] at hl1
    refine r_nil ⟨l1, _, rfl, .inl ⟨SqL.of hl1, fun a3 fa3 => ?_⟩⟩
    have g3 : Go [] H2 (upd H2 a3 (.tup ((pqrs.take np).map V.str))) := Go.new fa3
    have ha3 : SqT c.K (upd H2 a3 (.tup ((pqrs.take np).map V.str))) a3 ((pqrs.take np).map V.str) := SqT.of upd_same
    have G3 : Go [p] H (upd H2 a3 (.tup ((pqrs.take np).map V.str))) := g0.wide.trans (g1.trans (gl1.trans g3).wide)
    have hp3 : Pot _ p (n + 1) := (hp1.go gl1).go g3
    generalize (upd H2 a3 (.tup ((pqrs.take np).map V.str))) = H3 at ha3 G3 hp3 ⊢
    have pl : (pqrs.take np).length = np := by
      rw [List.length_take]
      show min np 4 = np
      omega
    clear g0 g1 gl1 g3 h01 h0 hl1 hp1 fl0 fl1 fa3
    refine ⟨_, rfl, _, rfl, _, rfl, r_subI (r_nil ⟨p, n + 1, ms - 1, by rw [show ((ms : Nat) : Int) - 1 = ((ms - 1 : Nat) : Int) by omega]; rfl, hp3, by omega, by omega, by omega, fun r2 H4 hr2 g4 hp4 => r_addI ⟨_, rfl, .inr ⟨_, rfl, by decide +kernel, ?_⟩⟩⟩)⟩
    rw [show (2 : Int) + (r2 : Int) = ((2 + r2 : Nat) : Int) from rfl, cut_abch (by omega)]
    refine ⟨_, rfl, p, a3, n + 2, 2 + r2, pqrs.take np, rfl, hp4, by omega, by omega, by omega, g4.sqT ha3, by omega, fun H5 a1 ss g5 hp5 hst hdr => ?_⟩
    have ha35 := (g4.trans g5).sqT ha3
    have G5 := G3.trans (g4.trans g5)
    clear g4 g5 hp4 hp3 G3 ha3
    refine ⟨_, rfl, _, rfl, p, n + 2 + 100, rd, rfl, hp5, by omega, by omega, by omega, fun r3 H6 hr3 g6 hp6 => r_addI ⟨_, rfl, by omega, by omega, fun D hD => ?_⟩⟩
    have ndp : D ≠ p := fun e => by
      obtain ⟨_, _, _, e1, _⟩ := id hp6
      rw [e, e1] at hD
      cases hD
    refine lc_map (walk_range (lo := 0) (n := 1 + r3)) [p] (fun i H' => Pot H' p (n + 103 + i)) (fun i y _ => ∃ v : Nat, y = .int (v : Int) ∧ 1 ≤ v ∧ v ≤ 3) yk_fn
      (by omega) hD (fun b hb => ?_) (fun _ _ => trivial) (hp6.up (by omega)) (fun i H' H'' hz hk' => ?_) (fun _ _ _ _ _ _ h => h) ?_ ?_
    · rw [List.mem_singleton.mp hb]
      obtain ⟨_, _, _, e1, _⟩ := id hp6
      rw [e1]
      exact fun z => nomatch z
    · obtain ⟨x1, x2, x3, e, r⟩ := hz
      exact ⟨x1, x2, x3, by rw [hk' p (List.mem_singleton.mpr rfl)]; exact e, r⟩
    · rintro i y H7 H8 Fin hi g7 g8 hz ⟨rfl, rfl⟩ fin
      refine ⟨rfl, _, rfl, _, rfl, p, n + 103 + i, tk, rfl, hz, by omega, by omega, by omega, fun r4 H9 hr4 g9 hp9 => r_addI (fin _ _ g9 hp9 ⟨1 + r4, rfl, by omega, by omega⟩)⟩
    intro H7 ys g7 hz7 hD7 hl7 hr7
    obtain ⟨ck, rfl, hck⟩ : ∃ ck : List Nat, ys = intsV ck ∧ ∀ v ∈ ck, 1 ≤ v ∧ v ≤ 3 := by
      clear hD7 hl7
      have got : ∀ {ys : List V}, (∀ (i : Nat) (y : V), ys[i]? = some y → ∃ v : Nat, y = .int (v : Int) ∧ 1 ≤ v ∧ v ≤ 3) → ∃ ck : List Nat, ys = intsV ck ∧ ∀ v ∈ ck, 1 ≤ v ∧ v ≤ 3 := by
        intro ys
        induction ys with
        | nil => exact fun _ => ⟨[], rfl, fun v hv => nomatch hv⟩
        | cons y ys ih =>
          intro h
          obtain ⟨v, rfl, hv⟩ := h 0 y rfl
          obtain ⟨ck, rfl, hc⟩ := ih fun i z hz => h (i + 1) z (by simpa using hz)
          refine ⟨v :: ck, rfl, fun w hw => ?_⟩
          rcases List.mem_cons.mp hw with z | z
          · rw [z]; exact hv
          · exact hc w z
      exact got hr7
    have ckl : ck.length = 1 + r3 := by
      have : (intsV ck).length = 1 + r3 := hl7
      simpa [intsV] using this
    have cB : clockB ck = true := by
      simp only [clockB, Bool.and_eq_true, decide_eq_true_eq, List.all_eq_true]
      exact ⟨by omega, by omega, hck⟩
    refine r_nil ⟨D, _, rfl, .inl ⟨SqL.of hD7, fun a2 fa2 => ?_⟩⟩
    have ga2 : Go [] H7 (upd H7 a2 (.tup (intsV ck))) := Go.new fa2
    have ha2 : SqT c.K (upd H7 a2 (.tup (intsV ck))) a2 (intsV ck) := SqT.of upd_same
    have g58 : Go [p] H5 (upd H7 a2 (.tup (intsV ck))) := g6.trans (g7.trans ga2.wide)
    have hp8 : Pot _ p (n + 106) := (hz7.go ga2).up (by omega)
    generalize (upd H7 a2 (.tup (intsV ck))) = H8 at ha2 g58 hp8 ⊢
    have hst8 := hst.go g58
    have ha38 := g58.sqT ha35
    have G8 := G5.trans g58
    have pl2 : ((pqrs.take np).map V.str).length = np := by rw [List.length_map, pl]
    clear g6 g7 ga2 hz7 hD7 hr7 hl7 hst ha35 G5 hp5 hp6 hD
    refine ⟨_, rfl, _, rfl, r_nil (r_lenT ha38 (r_subI (r_nil ⟨p, n + 106, np - 1, by rw [pl2, show ((np : Nat) : Int) - 1 = ((np - 1 : Nat) : Int) by omega]; rfl, hp8, by omega, by omega, by omega, fun r5 H9 hr5 g9 hp9 => r_addI ?_⟩)))⟩
    rw [show (1 : Int) + (r5 : Int) = ((1 + r5 : Nat) : Int) from rfl]
    refine ⟨_, rfl, _, rfl, _, rfl, a3, pqrs.take np, 1 + r5, rfl, g9.sqT ha38, by omega, pqrs_ok np, by omega, fun H10 ls as fls g10 hls hN => ?_⟩
    have nlp : ls ≠ p := fun e => by
      obtain ⟨_, _, _, e1, _⟩ := id hp9
      rw [e, e1] at fls
      cases fls
    have sne := setsL_some np (1 + r5) (by omega) (by omega) (by omega) (by omega)
    have asf : as.length ≤ 4 ^ 3 := by
      rw [hN.1]
      refine Nat.le_trans (setsL_few (by omega) (1 + r5)) (Nat.pow_le_pow_right (by decide) (by omega))
    refine r_nil ⟨p, ls, n + 107, as.map V.ref, rfl, hp9.go g10, by omega, fun e => ?_, by rw [List.length_map]; omega, .inl ⟨nlp, hls⟩, fun r6 v H11 hv g11 hp11 => ?_⟩
    · have : as = [] := by simpa using e
      have h0 := hN.1
      rw [this] at h0
      exact sne (List.length_eq_zero_iff.mp h0.symm)
    obtain ⟨a5, ha5⟩ : ∃ x, as[r6]? = some x := ⟨_, List.getElem?_eq_getElem (by have := (List.getElem?_eq_some_iff.mp hv).1; simpa using this)⟩
    have ev : v = .ref a5 := ref_at ha5 hv
    subst ev
    obtain ⟨fs, hfs⟩ : ∃ x, (setsL (pqrs.take np) (1 + r5))[r6]? = some x := ⟨_, List.getElem?_eq_getElem (by rw [← hN.1]; exact (List.getElem?_eq_some_iff.mp ha5).1)⟩
    have hf5 := g11.sqT (hN.2 r6 a5 fs ha5 hfs)
    have g811 := g9.trans (g10.wide.trans g11)
    have hst11 := hst8.go g811
    have ha311 := g811.sqT ha38
    have ha211 := g811.sqT ha2
    have G11 := G8.trans g811
    clear g9 g10 g11 g811 hst8 ha38 ha2 G8 g58 hp8 hp9 hls hN hv
    refine fun d fd => ⟨_, rfl, _, rfl, _, rfl, _, rfl, by show 5 ≤ sizeLine; decide, fun lm flm => ?_⟩
    have ndp2 : d ≠ p := fun e => by
      obtain ⟨_, _, _, e1, _⟩ := id hp11
      rw [e, e1] at fd
      cases fd
    have gd : Go [] H11 (upd H11 d (.dK [])) := Go.new fd
    have hd : (upd H11 d (.dK [])) d = some (.dK []) := upd_same
    generalize (upd H11 d (.dK [])) = H12 at gd hd flm ⊢
    have gm : Go [] H12 (upd H12 lm (.lst [.int 0, .int 1, .int 1, .int 2, .int 3])) := Go.new flm
    have nlm : lm ≠ p := fun e => by
      obtain ⟨_, _, _, e1, _⟩ := hp11.go gd
      rw [e, e1] at flm
      cases flm
    refine r_nil ⟨p, lm, n + 108, [.int 0, .int 1, .int 1, .int 2, .int 3], rfl, (hp11.go gd).go gm, by omega, by simp, by simp, .inl ⟨nlm, upd_same⟩, fun r7 v H13 hv g13 hp13 => ?_⟩
    obtain ⟨mv, rfl, hmv⟩ : ∃ mv : Nat, v = .int (mv : Int) ∧ mv ≤ 3 := by
      have hm := List.mem_of_getElem? hv
      simp only [List.mem_cons, List.not_mem_nil, or_false] at hm
      rcases hm with z | z | z | z | z
      · exact ⟨0, z, by decide⟩
      · exact ⟨1, z, by decide⟩
      · exact ⟨1, z, by decide⟩
      · exact ⟨2, z, by decide⟩
      · exact ⟨3, z, by decide⟩
    have g1213 : Go [p] H12 H13 := gm.wide.trans g13
    have g1113 : Go [p] H11 H13 := gd.wide.trans g1213
    have hd13 := g1213.old d _ (by simpa using ndp2) hd
    refine ⟨_, rfl, hd13, loreK a1 a2 a3 a5 mv, rfl, by show 5 ≤ 15; decide, ?_⟩
    rw [lore_merge]
    have gfin : Go [d] H13 (upd H13 d (.dK (loreK a1 a2 a3 a5 mv))) := Go.put hd13 rfl (List.Mem.head _)
    have fd0 : H d = none := by
      cases e : H d with
      | none => rfl
      | some o =>
        have := G11.old d o (by simpa using ndp2) e
        rw [this] at fd
        cases fd
    have GH : Go [p] H (upd H13 d (.dK (loreK a1 a2 a3 a5 mv))) := (G11.trans g1113).mut fd0
    have hpF : Pot (upd H13 d (.dK (loreK a1 a2 a3 a5 mv))) p (n + 120) := by
      obtain ⟨x1, x2, x3, x4, x5⟩ := hp13
      exact ⟨x1, x2, x3, by rw [upd_ne ndp2.symm]; exact x4, by omega⟩
    exact q _ d ⟨ss, ck, pqrs.take np, mv, fs⟩ fd0 GH hpF
      ⟨a1, a2, a3, a5, upd_same, (hst11.go g1113).go gfin, gfin.sqT (g1113.sqT ha211), gfin.sqT (g1113.sqT ha311), gfin.sqT (g1113.sqT hf5)⟩
      ⟨np, 2 + r2, 1 + r5, rfl, by omega, by omega, by omega, by omega, hdr, cB, by show mv ≤ 9; omega, by omega, by omega, List.mem_of_getElem? hfs⟩ hmv
end
end Sd

/-! L05e: drawn machines are right -/
namespace Sd
open PySem PySem.Spec PyProof.Rows L2 RZ RT
def csZ : Nat → Nat → List (List Nat)
  | 2, 1 => [[0], [1]]
  | 3, 1 => [[0], [1], [2]]
  | 3, 2 => [[0, 1], [0, 2], [1, 2]]
  | 4, 1 => [[0], [1], [2], [3]]
  | 4, 2 => [[0, 1], [0, 2], [0, 3], [1, 2], [1, 3], [2, 3]]
  | 4, 3 => [[0, 1, 2], [0, 1, 3], [0, 2, 3], [1, 2, 3]]
  | _, _ => []
def chainB (n : Nat) (cs : List (List Nat)) : Bool := decide (cs ≠ []) && ((List.range cs.length).all (fun j => decide (Cmb.nextC n (cs.getD j []) = cs[j + 1]?)) && (decide (cs.length ≤ 1000) && cs.all fun a => decide (a.length ≤ 1000)))
theorem chain_of {n : Nat} {cs : List (List Nat)} (h : chainB n cs = true) : Cmb.Chain n cs := by
  simp only [chainB, Bool.and_eq_true, decide_eq_true_eq, List.all_eq_true] at h
  refine ⟨h.1, fun j a e => ?_, h.2.2.1, h.2.2.2⟩
  have hj := (List.getElem?_eq_some_iff.mp e).1
  have := h.2.1 j (List.mem_range.mpr hj)
  rw [List.getD_eq_getElem?_getD, e] at this
  exact this
def csB (np k : Nat) : Bool := decide ((csZ np k)[0]? = some (List.range k)) && (chainB np (csZ np k) && ((csZ np k).all (fun ix => ix.all fun i => decide (i < np)) && decide (((csZ np k).map fun ix => ix.map fun i => (pqrs.take np).getD i Str.empty) = setsL (pqrs.take np) k)))
theorem cs_ok : ∀ np k, 2 ≤ np → np ≤ 4 → 1 ≤ k → k < np → csB np k = true := by
  intro np k h1 h2 h3 h4
  rcases (by omega : np = 2 ∨ np = 3 ∨ np = 4) with z | z | z <;> subst z
  · obtain rfl : k = 1 := by omega
    decide +kernel
  · rcases (by omega : k = 1 ∨ k = 2) with z | z <;> subst z <;> decide +kernel
  · rcases (by omega : k = 1 ∨ k = 2 ∨ k = 3) with z | z | z <;> subst z <;> decide +kernel
theorem drawn_cs {m : Mac} (h : DrawnM m) : ∃ cs, macCs m cs ∧ setsS m cs = setsL m.pages m.first.length := by
  obtain ⟨np, N, k, hp, n2, n4, _, _, _, _, _, k1, kn, hf⟩ := h.ex
  have hl : m.first.length = k := (setsL_mem k m.first hf).1
  have pl : m.pages.length = np := by
    rw [hp, List.length_take]
    show min np 4 = np
    omega
  have hc := cs_ok np k n2 n4 k1 kn
  simp only [csB, Bool.and_eq_true, decide_eq_true_eq, List.all_eq_true] at hc
  refine ⟨csZ np k, ⟨by rw [hl]; exact hc.1, by rw [pl]; exact chain_of hc.2.1, fun ix hix i hi => by rw [pl]; exact hc.2.2.1 ix hix i hi⟩, ?_⟩
  unfold setsS
  rw [hl, hp]
  exact hc.2.2.2
theorem set_right : ∀ np k, 2 ≤ np → np ≤ 4 → 1 ≤ k → k < np → ∀ f ∈ setsL (pqrs.take np) k, setB (pqrs.take np) f = true := by
  intro np k h1 h2 h3 h4
  rcases (by omega : np = 2 ∨ np = 3 ∨ np = 4) with z | z | z <;> subst z
  · obtain rfl : k = 1 := by omega
    decide +kernel
  · rcases (by omega : k = 1 ∨ k = 2) with z | z <;> subst z <;> decide +kernel
  · rcases (by omega : k = 1 ∨ k = 2 ∨ k = 3) with z | z | z <;> subst z <;> decide +kernel
theorem drawn_names {N : Nat} {ps : List Str} {ss : List Stp} (h : drawnB N ps ss) : ss.map Stp.name = (List.range N).map ltr := by
  apply List.ext_getElem?
  intro i
  rw [List.getElem?_map, List.getElem?_map]
  by_cases hi : i < N
  · rw [List.getElem?_range hi]
    obtain ⟨s, hs⟩ : ∃ s, ss[i]? = some s := ⟨_, List.getElem?_eq_getElem (by rw [h.1]; exact hi)⟩
    rw [hs]
    exact congrArg some (h.2 i s hs).name
  · rw [List.getElem?_eq_none (by rw [h.1]; omega), List.getElem?_eq_none (by simp; omega)]
    rfl
theorem drawn_right {m : Mac} (h : DrawnM m) : macB m = true := by
  obtain ⟨np, N, k, hp, n2, n4, N1, N8, hd, hc, hmv, k1, kn, hf⟩ := h.ex
  have pq : ∀ np, 2 ≤ np → np ≤ 4 → (namesB (pqrs.take np) && (decide (2 ≤ (pqrs.take np).length) && decide ((pqrs.take np).length ≤ 4))) = true ∧ ∀ p ∈ pqrs.take np, isNameS p = true := fun np h1 h2 => by
    rcases (by omega : np = 2 ∨ np = 3 ∨ np = 4) with z | z | z <;> subst z <;> exact ⟨by decide +kernel, by decide +kernel⟩
  obtain ⟨q1, q2⟩ := pq np n2 n4
  simp only [Bool.and_eq_true, decide_eq_true_eq] at q1
  rw [← hp] at q1 q2
  have nms := drawn_names hd
  have st : stepsB m.steps = true := by
    simp only [stepsB, Bool.and_eq_true, decide_eq_true_eq, List.all_eq_true]
    refine ⟨by rw [hd.1]; exact N1, by rw [hd.1]; exact N8, fun s hs => ?_, ?_, fun s hs n hn => ?_⟩
    · obtain ⟨i, hi⟩ := List.mem_iff_getElem?.mp hs
      have D := hd.2 i s hi
      have iN : i < N := by rw [← hd.1]; exact (List.getElem?_eq_some_iff.mp hi).1
      obtain ⟨ks, e1, e2, e3, e4⟩ := D.fol
      have a1 : isNameS s.name = true := by rw [D.name]; exact ltr_name (by omega)
      have a2 : namesB s.fol = true := by rw [e1]; exact names_fol e2 e3 fun k hk => by have := e4 k hk; omega
      have a3 : s.fol.length ≤ 3 := by rw [e1, List.length_map]; exact e3
      have a4 : ∀ p, s.page = some p → isNameS p = true := fun p hp' => q2 p (D.page p hp')
      simp only [stpB, Bool.and_eq_true, decide_eq_true_eq]
      cases hpg : s.page with
      | none => simp [pageB, a1, a2, a3]
      | some p => simp [pageB, a1, a2, a3, a4 p hpg]
    · rw [nms]
      exact (List.nodup_range).map ltr fun a b hab e => hab (ltr_inj e)
    · obtain ⟨i, hi⟩ := List.mem_iff_getElem?.mp hs
      obtain ⟨ks, e1, _, _, e4⟩ := (hd.2 i s hi).fol
      rw [e1] at hn
      obtain ⟨k', hk', rfl⟩ := List.mem_map.mp hn
      rw [nms]
      exact List.mem_map.mpr ⟨k', List.mem_range.mpr (e4 k' hk'), rfl⟩
  have pg : pagesB m.steps m.pages = true := by
    simp only [pagesB, Bool.and_eq_true, decide_eq_true_eq, List.all_eq_true]
    refine ⟨q1.1, q1.2.1, q1.2.2, fun s hs => ?_⟩
    obtain ⟨i, hi⟩ := List.mem_iff_getElem?.mp hs
    have D := hd.2 i s hi
    cases hpg : s.page with
    | none => rfl
    | some p => exact decide_eq_true (D.page p hpg)
  have fs : setB m.pages m.first = true := by
    rw [hp] at hf ⊢
    exact set_right np k n2 n4 k1 kn m.first hf
  unfold macB
  rw [st, hc, pg, fs, decide_eq_true hmv]
  rfl
end Sd

/-! L05f: what the law reads off a machine's data -/
namespace Sd
open PySem PySem.Spec PyProof.Rows L2 RZ RT
/-- lore['..'] -/
theorem lget {H : Hp} {d : Addr} {k : Str} {v : V} {a1 a2 a3 a5 : Addr} {mv : Nat} (h : H d = some (.dK (loreK a1 a2 a3 a5 mv))) (e : valV (loreK a1 a2 a3 a5 mv) (.inr k) = some v) : DGet H d (.str k) (some v) := by
  rw [← e]
  exact DGet.k (k := .inr k) h
theorem lore_steps {a1 a2 a3 a5 : Addr} {mv : Nat} : valV (loreK a1 a2 a3 a5 mv) (.inr ("steps" : Str)) = some (.ref a1) := rfl
theorem lore_clock {a1 a2 a3 a5 : Addr} {mv : Nat} : valV (loreK a1 a2 a3 a5 mv) (.inr ("clock" : Str)) = some (.ref a2) := rfl
theorem lore_pages {a1 a2 a3 a5 : Addr} {mv : Nat} : valV (loreK a1 a2 a3 a5 mv) (.inr ("pages" : Str)) = some (.ref a3) := rfl
theorem lore_move {a1 a2 a3 a5 : Addr} {mv : Nat} : valV (loreK a1 a2 a3 a5 mv) (.inr ("move" : Str)) = some (.int (mv : Int)) := rfl
theorem lore_first {a1 a2 a3 a5 : Addr} {mv : Nat} : valV (loreK a1 a2 a3 a5 mv) (.inr ("first" : Str)) = some (.ref a5) := rfl
def spLSets (c : Wd) : Sp := fun vs H Q _ => ∃ (d : Addr) (m : Mac), vs = [.ref d] ∧ LoreAt c.K H d m ∧ DrawnM m ∧
  ∀ H' l as, H l = none → Go [] H H' → H' l = some (.lst (as.map V.ref)) → NmsAt c.K H' as (setsL m.pages m.first.length) → Q (.ref l) H'
/-- the page and what follows, of the step of that name -/
def spLStep (c : Wd) : Sp := fun vs H Q _ => ∃ (d : Addr) (m : Mac) (i : Nat) (s : Stp), vs = [.ref d, .str s.name] ∧ LoreAt c.K H d m ∧ DrawnM m ∧ m.steps[i]? = some s ∧
  ∀ H' t fl, Go [] H H' → SqT c.K H' t [pgV s.page, .ref fl] → SqT c.K H' fl (s.fol.map V.str) → Q (.ref t) H'
def spLTicks (c : Wd) : Sp := fun vs H Q _ => ∃ (d : Addr) (m : Mac) (n : Nat), vs = [.ref d, .int (n : Int)] ∧ LoreAt c.K H d m ∧ DrawnM m ∧ ∀ H', Go [] H H' → Q (.int (m.clock.getD (n % m.clock.length) 0 : Nat)) H'
/-- the names of the steps that may come behind the one of that name -/
def spLLater (c : Wd) : Sp := fun vs H Q _ => ∃ (d : Addr) (m : Mac) (i : Nat) (s : Stp), vs = [.ref d, .str s.name] ∧ LoreAt c.K H d m ∧ DrawnM m ∧ m.steps[i]? = some s ∧
  ∀ H' fl, Go [] H H' → SqT c.K H' fl (s.fol.map V.str) → Q (.ref fl) H'
theorem filt_one {i : Nat} : ∀ {N : Nat}, i < N → ((List.range N).filter fun j => decide (j = i)) = [i] := by
  intro N
  induction N with
  | zero => exact fun h => absurd h (Nat.not_lt_zero _)
  | succ n ih =>
    intro h
    rw [List.range_succ, List.filter_append]
    by_cases e : i = n
    · subst e
      have : ((List.range i).filter fun j => decide (j = i)) = [] := List.filter_eq_nil_iff.mpr fun j hj => by
        have := List.mem_range.mp hj
        simp
        omega
      rw [this]
      simp
    · rw [ih (by omega)]
      have : ([n].filter fun j => decide (j = i)) = [] := by
        simp
        omega
      rw [this]
      rfl
section
variable {c : Wd}
abbrev s__law_step : Stmt := topS 54
abbrev N__law_step : List Str := ["_law_lore_here", "_law_name", "_law_step_here"]
abbrev P__law_step : List Str := ["_law_lore_here", "_law_name"]
theorem sc__law_step : FnScope N__law_step P__law_step (defScope s__law_step) := ⟨rfl, rfl, rfl, by decide +kernel, rfl, by decide +kernel, by decide +kernel⟩
theorem ok_lstep (F : At c "_law_step" "_law_step" s__law_step P__law_step) (B : Bi c) : Ok c "_law_step" 1 P__law_step (spLStep c) := by
  refine Ok.of F sc__law_step (fun vs H Q E h => ?_) (fun f cdv A out s H vs Q E hr h => ?_)
  · obtain ⟨d, m, i, s, rfl, _⟩ := h
    rfl
  · obtain ⟨d, m, i, s, rfl, hL, hD, hs, q⟩ := h
    have hu1 := hu_of hr
    have hu := hr.units
    obtain ⟨a1, a2, a3, a5, h1, ⟨vs, k1, k2, k3⟩, h3, h4, h5⟩ := hL.ex
    obtain ⟨np, N, k, hp, n2, n4, _, N8, hdr, _⟩ := hD.ex
    have iN : i < N := by rw [← hdr.1]; exact (List.getElem?_eq_some_iff.mp hs).1
    have hnm : ∀ (j : Nat) (s' : Stp), m.steps[j]? = some s' → s'.name = ltr j := fun j s' e => (hdr.2 j s' e).name
    have vl : vs.length = N := by rw [k2, hdr.1]
    refine ⟨_, (pss_one (ps_ret (pe_ixU (K := c.K) hu1 (pe_lc (own := [("_law_step_here", 2)]) rfl sc__law_step.nd (pi_seq (K := c.K) (pe_ixU (K := c.K) hu1 (pv 0) pe_str (fun _ _ => rfl) (fun _ _ => rfl))) (blkOk_by (N := N__law_step) (sc := defScope s__law_step) (by decide +kernel)) (fun _ _ _ _ _ => (pg_name (i := 2) sc__law_step.nd rfl (by first | exact Or.inl rfl | exact Or.inr rfl))) (fun _ _ _ _ _ => pts_one (pt_cmpR (op_eqU (K := c.K) hu) (pe_ixU (K := c.K) hu1 (pv 2) pe_int (fun _ _ => rfl) (fun _ _ => rfl)) (pv 1) (nomark _))) (fun _ _ _ _ _ => (pe_slice (sl_U (K := c.K)) (pv 2) (po_some pe_int) po_none))) pe_int (fun _ _ => rfl) (fun _ _ => rfl)))), ?_⟩
    refine .inl (.inl (.inr (.inr ⟨_, rfl, d, _, rfl, lget h1 lore_steps, a1, rfl, ⟨_, k1⟩, fun D hD => ?_⟩)))
    refine lc_fil (walk_tup (xs := vs)) [] (fun _ _ => True) (fun j y H' => ∀ s' : Stp, m.steps[j]? = some s' → ∃ b fl, y = .ref b ∧ SqT c.K H' b [pgV s'.page, .ref fl] ∧ SqT c.K H' fl (s'.fol.map V.str)) (fun j => decide (j = i)) yk_at
      (by omega) hD (fun _ h => nomatch h) (fun H' g => g.sqT k1) trivial (fun _ _ _ _ _ => trivial) (fun _ _ _ _ _ g h s' e => let ⟨b, fl, e1, e2, e3⟩ := h s' e; ⟨b, fl, e1, g.sqT e2, g.sqT e3⟩) ?_ ?_
    · rintro j y H2 H3 Fin Skip hj g2 g3 _ ⟨rfl, hx⟩ fin skip
      obtain ⟨s', hs'⟩ : ∃ s', m.steps[j]? = some s' := ⟨_, List.getElem?_eq_getElem (by omega)⟩
      obtain ⟨b, fl, rfl, e1, e2⟩ := (k3 j y s' hx hs').go g2
      refine ⟨rfl, .inl ⟨_, rfl, ixT (i := 0) e1 rfl ⟨_, rfl, .inl ⟨rfl, _, rfl, ?_⟩⟩⟩⟩
      by_cases hji : j = i
      · have es : s' = s := by
          rw [hji, hs] at hs'
          exact (Option.some.inj hs').symm
        refine (if_pos (decide_eq_true (by rw [es]))).mpr ⟨_, rfl, 1, rfl, r_slT e1 fun b' H4 g4 hb' => fin _ _ (decide_eq_true hji) g4 trivial fun s2 e => ?_⟩
        have e2s : s2 = s' := by rw [hs'] at e; exact (Option.some.inj e).symm
        subst e2s
        have ec : cutV [V.str s2.name, pgV s2.page, .ref fl] (some (1 : Int)) none = [pgV s2.page, .ref fl] := cut_from 1
        rw [ec] at hb'
        exact ⟨b', fl, rfl, hb', g4.sqT e2⟩
      · have ne : ¬ V.str s'.name = V.str s.name := fun z => by
          have z' := V.str.inj z
          rw [hnm j s' hs', hnm i s hs] at z'
          exact hji (ltr_inj z')
        exact (if_neg (by rw [decide_eq_false ne]; simp)).mpr (skip _ (decide_eq_false hji) (Go.refl _ _) trivial)
    · intro H2 ys g2 _ hD2 hl2 hr2
      rw [vl, filt_one iN] at hl2 hr2
      obtain ⟨y0, rfl⟩ : ∃ y, ys = [y] := List.length_eq_one_iff.mp hl2
      obtain ⟨b, fl, rfl, e1, e2⟩ := hr2 0 y0 i rfl rfl s hs
      exact ixL (i := 0) hD2 rfl (q H2 b fl g2 e1 e2)
abbrev s__law_later : Stmt := topS 55
abbrev N__law_later : List Str := ["_law_lore_here", "_law_name"]
abbrev P__law_later : List Str := ["_law_lore_here", "_law_name"]
theorem sc__law_later : FnScope N__law_later P__law_later (defScope s__law_later) := ⟨rfl, rfl, rfl, by decide +kernel, rfl, by decide +kernel, by decide +kernel⟩
theorem ok_llater (F : At c "_law_later" "_law_later" s__law_later P__law_later) (B : Bi c) (D__law_step : Ok c "_law_step" 1 P__law_step (spLStep c)) : Ok c "_law_later" 2 P__law_later (spLLater c) := by
  refine Ok.of F sc__law_later (fun vs H Q E h => ?_) (fun f cdv A out s H vs Q E hr h => ?_)
  · obtain ⟨d, m, i, s, rfl, _⟩ := h
    rfl
  · obtain ⟨d, m, i, s, rfl, hL, hD, hs, q⟩ := h
    have hu1 := hu_of hr
    refine ⟨_, (pss_one (ps_ret (pe_ifExp (pt_cmpR op_isN (pv 1) pe_non (nomark _)) (pe_tup (pa_cons (pe_ixU (K := c.K) hu1 (pe_ixU (K := c.K) hu1 (pe_ixU (K := c.K) hu1 (pv 0) pe_str (fun _ _ => rfl) (fun _ _ => rfl)) pe_int (fun _ _ => rfl) (fun _ _ => rfl)) pe_int (fun _ _ => rfl) (fun _ _ => rfl)) pa_nil)) (pe_ixU (K := c.K) hu1 (pe_f D__law_step (hr.mono (by decide)) (by rfl) (pa_cons (pv 0) (pa_cons (pv 1) pa_nil))) pe_int (fun _ _ => rfl) (fun _ _ => rfl))))), ?_⟩
    refine ⟨_, rfl, rfl, _, rfl, (if_neg (by simp)).mpr ?_⟩
    exact .inl ⟨_, rfl, _, rfl, d, m, i, s, rfl, hL, hD, hs, fun H1 t fl g1 ht hfl => ixT (i := 1) ht rfl (q H1 fl g1 hfl)⟩
abbrev s__law_ticks : Stmt := topS 56
abbrev N__law_ticks : List Str := ["_law_lore_here", "_law_turn"]
abbrev P__law_ticks : List Str := ["_law_lore_here", "_law_turn"]
theorem sc__law_ticks : FnScope N__law_ticks P__law_ticks (defScope s__law_ticks) := ⟨rfl, rfl, rfl, by decide +kernel, rfl, by decide +kernel, by decide +kernel⟩
theorem ok_lticks (F : At c "_law_ticks" "_law_ticks" s__law_ticks P__law_ticks) (B : Bi c) : Ok c "_law_ticks" 1 P__law_ticks (spLTicks c) := by
  refine Ok.of F sc__law_ticks (fun vs H Q E h => ?_) (fun f cdv A out s H vs Q E hr h => ?_)
  · obtain ⟨d, m, n, rfl, _⟩ := h
    rfl
  · obtain ⟨d, m, n, rfl, hL, hD, q⟩ := h
    have hu1 := hu_of hr
    obtain ⟨a1, a2, a3, a5, h1, _, h3, h4, h5⟩ := hL.ex
    obtain ⟨c1, c2, c3⟩ := clk (drawn_right hD) n
    have hl : (intsV m.clock).length = m.clock.length := by simp [intsV]
    refine ⟨_, (pss_one (ps_ret (pe_ixU (K := c.K) hu1 (pe_ixU (K := c.K) hu1 (pv 0) pe_str (fun _ _ => rfl) (fun _ _ => rfl)) (pe_op op_modU (pe_callTy call_intU (by rfl) B.int (by decide +kernel) (pa_cons (pv 1) pa_nil)) (pe_callB (call_lenU (K := c.K)) (by rfl) B.len (by decide +kernel) (pa_cons (pe_ixU (K := c.K) hu1 (pv 0) pe_str (fun _ _ => rfl) (fun _ _ => rfl)) pa_nil))) (fun _ _ => rfl) (fun _ _ => rfl)))), ?_⟩
    refine .inl (.inr ⟨_, rfl, d, _, rfl, lget h1 lore_clock, _, rfl, .inl ⟨_, rfl, .inr ⟨_, rfl, d, _, rfl, lget h1 lore_clock, r_nil (r_lenT h3 ?_)⟩⟩⟩)
    rw [hl]
    refine r_mod (by omega) fun z z0 z1 ez => ?_
    have hz : z = ((n % m.clock.length : Nat) : Int) := by
      rw [ez, Int.natCast_emod]
    subst hz
    exact ixT (i := n % m.clock.length) h3 (v := .int ((m.clock.getD (n % m.clock.length) 0 : Nat) : Int)) (by rw [intsV, List.getElem?_map, c3]; rfl) (q H (Go.refl _ _))
end
end Sd

/-! L05g: a run's turns, and what they touch, by the law's own look -/
namespace Sd
open PySem PySem.Spec PyProof.Rows L2 RZ RT
def spLParts (c : Wd) : Sp := fun vs H Q _ => ∃ (d r : Addr) (m : Mac) (ns : List Str), vs = [.ref d, .ref r] ∧ LoreAt c.K H d m ∧ DrawnM m ∧ SqT c.K H r (ns.map V.str) ∧ ns.length ≤ 1000 ∧
  ∀ H' t i, H t = none → Go [] H H' → TurnsAt c.K H' t m.clock ns i → ns.length ≤ stF m.clock i → (i = 0 ∨ stF m.clock (i - 1) < ns.length) → Q (.ref t) H'
/-- the pages that the steps of a tuple of names touch -/
def spLTouched (c : Wd) : Sp := fun vs H Q _ => ∃ (d r : Addr) (m : Mac) (ss : List Stp), vs = [.ref d, .ref r] ∧ LoreAt c.K H d m ∧ DrawnM m ∧ SqT c.K H r ((ss.map Stp.name).map V.str) ∧ ss.length ≤ 1000 ∧ (∀ s ∈ ss, ∃ i : Nat, m.steps[i]? = some s) ∧
  ∀ H' l, H l = none → Go [] H H' → H' l = some (.lst (((ss.map Stp.page).filterMap id).map V.str)) → Q (.ref l) H'
section
variable {c : Wd}
abbrev s__law_touched : Stmt := topS 57
abbrev N__law_touched : List Str := ["_law_lore_here", "_law_road", "_law_name"]
abbrev P__law_touched : List Str := ["_law_lore_here", "_law_road"]
theorem sc__law_touched : FnScope N__law_touched P__law_touched (defScope s__law_touched) := ⟨rfl, rfl, rfl, by decide +kernel, rfl, by decide +kernel, by decide +kernel⟩
theorem ok_ltouched (F : At c "_law_touched" "_law_touched" s__law_touched P__law_touched) (B : Bi c) (D__law_step : Ok c "_law_step" 1 P__law_step (spLStep c)) : Ok c "_law_touched" 2 P__law_touched (spLTouched c) := by
  refine Ok.of F sc__law_touched (fun vs H Q E h => ?_) (fun f cdv A out s H vs Q E hr h => ?_)
  · obtain ⟨d, r, m, ss, rfl, _⟩ := h
    rfl
  · obtain ⟨d, r, m, ss, rfl, hL, hD, hs, hfew, hss, q⟩ := h
    have hu1 := hu_of hr
    have hlen : ((ss.map Stp.name).map V.str).length = ss.length := by simp
    refine ⟨_, (pss_one (ps_ret (pe_lc (own := [("_law_name", 2)]) rfl sc__law_touched.nd (pi_seq (K := c.K) (pv 1)) (blkOk_by (N := N__law_touched) (sc := defScope s__law_touched) (by decide +kernel)) (fun _ _ _ _ _ => (pg_name (i := 2) sc__law_touched.nd rfl (by first | exact Or.inl rfl | exact Or.inr rfl))) (fun _ _ _ _ _ => pts_one (pt_cmpR op_notN (pe_ixU (K := c.K) hu1 (pe_f D__law_step (hr.mono (by decide)) (by rfl) (pa_cons (pv 0) (pa_cons (pv 2) pa_nil))) pe_int (fun _ _ => rfl) (fun _ _ => rfl)) pe_non (nomark _))) (fun _ _ _ _ _ => (pe_ixU (K := c.K) hu1 (pe_f D__law_step (hr.mono (by decide)) (by rfl) (pa_cons (pv 0) (pa_cons (pv 2) pa_nil))) pe_int (fun _ _ => rfl) (fun _ _ => rfl)))))), ?_⟩
    refine .inl (.inr ⟨_, rfl, r, rfl, ⟨_, hs⟩, fun D hD' => ?_⟩)
    have hDn : H D = none := hD'
    refine lc_fil (walk_tup (xs := (ss.map Stp.name).map V.str)) [] (fun _ _ => True) (fun j y _ => y = pgV ((ss.map Stp.page).getD j none)) (fun j => ((ss.map Stp.page).getD j none).isSome) yk_at
      (by omega) hD' (fun _ h => nomatch h) (fun H' g => g.sqT hs) trivial (fun _ _ _ _ _ => trivial) (fun _ _ _ _ _ _ h => h) ?_ ?_
    · rintro j y H2 H3 Fin Skip hj g2 g3 _ ⟨rfl, hx⟩ fin skip
      obtain ⟨st, hst⟩ : ∃ s, ss[j]? = some s := ⟨_, List.getElem?_eq_getElem (by omega)⟩
      have hy : y = .str st.name := by
        rw [List.getElem?_map, List.getElem?_map, hst] at hx
        simpa using hx.symm
      subst hy
      have hpg : (ss.map Stp.page).getD j none = st.page := by
        rw [List.getD_eq_getElem?_getD, List.getElem?_map, hst]
        rfl
      rw [hpg] at fin skip
      obtain ⟨k, hk⟩ := hss st (List.mem_of_getElem? hst)
      have hL2 := hL.go g2 (by simp)
      refine ⟨rfl, .inl ⟨_, rfl, _, rfl, d, m, k, st, rfl, hL2, hD, hk, fun H4 t fl g4 ht hfl => ixT (i := 0) ht rfl ?_⟩⟩
      cases hpc : st.page with
      | none =>
        rw [hpc] at skip
        exact ⟨rfl, _, rfl, (if_neg (by simp [pgV])).mpr (skip _ rfl g4 trivial)⟩
      | some pg =>
        rw [hpc] at fin
        refine ⟨rfl, _, rfl, (if_pos (by simp [pgV])).mpr ?_⟩
        refine .inl ⟨_, rfl, _, rfl, d, m, k, st, rfl, hL2.go g4 (by simp), hD, hk, fun H5 t' fl' g5 ht' hfl' => ixT (i := 0) ht' rfl ?_⟩
        rw [hpc]
        exact fin _ _ rfl (g4.trans g5) trivial rfl
    · intro H2 ys g2 _ hD2 hl2 hr2
      rw [hlen] at hl2 hr2
      have ey : ys = ((ss.map Stp.page).filterMap id).map V.str := by
        have e1 := List.filter_map (f := fun i => (ss.map Stp.page).getD i none) (p := fun g => g.isSome) (l := List.range (ss.map Stp.page).length)
        rw [range_get, List.length_map] at e1
        have e2 : ∀ gs : List (Option Str), (gs.filterMap id).map V.str = (gs.filter fun g => g.isSome).map pgV := by
          intro gs
          induction gs with
          | nil => rfl
          | cons g gs ih =>
            cases g with
            | none => simpa using ih
            | some p => simp [ih, pgV]
        rw [e2, e1, List.map_map]
        apply List.ext_getElem?
        intro k
        by_cases hk : k < ys.length
        · obtain ⟨i, hi⟩ : ∃ i, ((List.range ss.length).filter fun j => ((ss.map Stp.page).getD j none).isSome)[k]? = some i := ⟨_, List.getElem?_eq_getElem (by omega)⟩
          have := hr2 k _ i (List.getElem?_eq_getElem hk) hi
          rw [List.getElem?_map]
          show _ = Option.map _ (((List.range ss.length).filter fun j => ((ss.map Stp.page).getD j none).isSome)[k]?)
          rw [hi, List.getElem?_eq_getElem hk]
          exact congrArg some this
        · rw [List.getElem?_eq_none (Nat.le_of_not_lt hk), List.getElem?_eq_none]
          rw [List.length_map]
          exact hl2 ▸ Nat.le_of_not_lt hk
      subst ey
      exact q H2 D hDn g2 hD2
end
end Sd

/-! L05h: what a run costs, by the law's own look -/
namespace Sd
open PySem PySem.Spec PyProof.Rows L2 RZ RT
def paidL (m : Mac) (ss : List Stp) (rs : List (List Str)) : Nat → Int
  | 0 => 0
  | i + 1 => paidL m ss rs i + ((slowS (tS m.clock ss i) (rs.getD i []) : Nat) : Int) + (if 0 < i then (m.move : Int) * ((comeS (rs.getD (i - 1) []) (rs.getD i [])).length : Nat) else 0)
theorem paidL_eq (m : Mac) (ss : List Stp) (rs : List (List Str)) : ∀ i, paidL m ss rs i = (slowL m ss rs i).sum + (moveL m rs (i - 1)).sum
  | 0 => rfl
  | i + 1 => by
    have e1 : (slowL m ss rs (i + 1)).sum = (slowL m ss rs i).sum + ((slowS (tS m.clock ss i) (rs.getD i []) : Nat) : Int) := by
      simp [slowL, List.range_succ]
    show paidL m ss rs i + _ + _ = _
    rw [paidL_eq m ss rs i, e1]
    cases i with
    | zero =>
      rw [if_neg (Nat.lt_irrefl 0)]
      show _ + (moveL m rs 0).sum + _ + 0 = _ + _ + (moveL m rs 0).sum
      omega
    | succ k =>
      have e2 : (moveL m rs (k + 1)).sum = (moveL m rs k).sum + (m.move : Int) * ((comeS (rs.getD k []) (rs.getD (k + 1) [])).length : Nat) := by
        simp [moveL, List.range_succ]
      rw [if_pos (Nat.succ_pos k)]
      show _ + (moveL m rs k).sum + _ + (m.move : Int) * ((comeS (rs.getD k []) (rs.getD (k + 1) [])).length : Nat) = _ + _ + (moveL m rs (k + 1)).sum
      rw [e2]
      omega
theorem paid_total (m : Mac) (ss : List Stp) (rs : List (List Str)) : paidL m ss rs rs.length = totalS m ss rs rs.length := by
  rw [paidL_eq]
  unfold totalS
  rw [Nat.min_self]
theorem slow_list (ss : List Stp) (fs : List Str) : ((((ss.map Stp.page).filterMap id).filter fun p => decide (p ∉ fs))).length = slowS ss fs := by
  unfold slowS
  generalize ss.map Stp.page = gs
  induction gs with
  | nil => rfl
  | cons g gs ih =>
    cases g with
    | none =>
      rw [List.filterMap_cons_none rfl, ih]
      rfl
    | some p =>
      have e0 : List.filterMap id (some p :: gs) = p :: List.filterMap id gs := by simp
      rw [e0, List.filter_cons, List.filter_cons]
      have e : slowB fs (some p) = decide (p ∉ fs) := rfl
      rw [e]
      split
      · rw [List.length_cons, List.length_cons, ih]
      · exact ih
theorem str_at {xs : List Str} {j : Nat} {y : V} (h : (xs.map V.str)[j]? = some y) : y = .str (xs.getD j Str.empty) := by
  rw [List.getElem?_map] at h
  cases e : xs[j]? with
  | none => rw [e] at h; cases h
  | some p =>
    rw [e] at h
    rw [List.getD_eq_getElem?_getD, e]
    exact (Option.some.inj h).symm
def spLPaid (c : Wd) : Sp := fun vs H Q _ => ∃ (d r v : Addr) (m : Mac) (ss : List Stp) (rs : List (List Str)), vs = [.ref d, .ref r, .ref v] ∧ LoreAt c.K H d m ∧ DrawnM m ∧ SqT c.K H r ((ss.map Stp.name).map V.str) ∧ ss.length ≤ 1000 ∧ (∀ s ∈ ss, ∃ i : Nat, m.steps[i]? = some s) ∧
  WatAt c.K H v rs ∧ rowB rs = true ∧ turnsIn m ss rs.length ∧ ∀ H', Go [] H H' → Q (.int (totalS m ss rs rs.length)) H'
section
variable {c : Wd}
end
end Sd

/-! L05i: drawn runs and rows; the machine made of what was drawn -/
namespace Sd
open PySem PySem.Spec PyProof.Rows L2 RZ RT
theorem ne_lore {K : PySem.W.Frag} {H : Hp} {d p : Addr} {m : Mac} {n : Nat} (hL : LoreAt K H d m) (hp : Pot H p n) : d ≠ p := fun e => by
  obtain ⟨_, _, _, _, h1, _⟩ := hL.ex
  obtain ⟨_, _, _, h2, _⟩ := hp
  rw [e, h2] at h1
  cases h1
theorem run_one {m : Mac} {s : Stp} (h : m.steps[0]? = some s) : runOf m [s] := by
  refine ⟨⟨⟨s, h, rfl⟩, fun j a b h1 h2 => ?_, by simp⟩, fun s' hs' => ?_⟩
  · simp at h2
  · rw [List.mem_singleton.mp hs']
    exact ⟨0, h⟩
theorem run_snoc {m : Mac} {ss : List Stp} {s s2 : Stp} {k : Nat} (h : runOf m ss) (hl : ss.getLast? = some s) (hk : m.steps[k]? = some s2) (hf : s2.name ∈ s.fol) (hn : ss.length < 1000) : runOf m (ss ++ [s2]) := by
  obtain ⟨⟨⟨s0, b1, b2⟩, nx, few⟩, hin⟩ := h
  have hne : ss ≠ [] := fun e => by rw [e] at hl; cases hl
  have hpos : 1 ≤ ss.length := List.length_pos_iff.mpr hne
  refine ⟨⟨⟨s0, b1, ?_⟩, fun j a b h1 h2 => ?_, by simp; omega⟩, fun s' hs' => ?_⟩
  · rw [List.map_append, List.getElem?_append_left (by rw [List.length_map]; exact hpos)]
    exact b2
  · rw [List.map_append] at h1 h2
    by_cases hj : j + 1 < ss.length
    · rw [List.getElem?_append_left (by rw [List.length_map]; omega)] at h1 h2
      exact nx j a b h1 h2
    · have hj2 : j + 1 = ss.length := by
        have := (List.getElem?_eq_some_iff.mp h2).1
        simp at this
        omega
      rw [List.getElem?_append_left (by rw [List.length_map]; omega)] at h1
      rw [List.getElem?_append_right (by rw [List.length_map]; omega), List.length_map, hj2, Nat.sub_self] at h2
      have eb : s2.name = b := by simpa using h2
      have ea : s.name = a := by
        rw [List.getLast?_eq_getElem?, show ss.length - 1 = j by omega] at hl
        rw [List.getElem?_map, hl] at h1
        exact Option.some.inj h1
      obtain ⟨i, hi⟩ := hin s (List.mem_of_getLast? hl)
      exact ⟨i, s, hi, ea, by rw [← eb]; exact hf⟩
  · rcases List.mem_append.mp hs' with z | z
    · exact hin s' z
    · rw [List.mem_singleton.mp z]
      exact ⟨k, hk⟩
def spLRun (c : Wd) : Sp := fun vs H Q _ => ∃ (p d : Addr) (m : Mac) (n up : Nat), vs = [.ref p, .ref d, .int (up : Int)] ∧ Pot H p n ∧ n ≤ 2 ^ 28 ∧ 1 ≤ up ∧ up ≤ 100 ∧ LoreAt c.K H d m ∧ DrawnM m ∧
  ∀ H' r ss, Go [p] H H' → Pot H' p (n + 1 + up) → SqT c.K H' r ((ss.map Stp.name).map V.str) → runOf m ss → 1 ≤ ss.length → ss.length ≤ up → Q (.ref r) H'
def spLMade (c : Wd) (C : Addr) : Sp := fun vs H Q _ => ∃ (d : Addr) (m : Mac), vs = [.ref d] ∧ LoreAt c.K H d m ∧ DrawnM m ∧ ∀ H' o cs, Go [] H H' → MacAt c.K C H' o m cs → macCs m cs → setsS m cs = setsL m.pages m.first.length → Q (.ref o) H'
def spLRow (c : Wd) : Sp := fun vs H Q _ => ∃ (p d r : Addr) (m : Mac) (n : Nat) (ss : List Stp), vs = [.ref p, .ref d, .ref r] ∧ Pot H p n ∧ n ≤ 2 ^ 28 ∧ LoreAt c.K H d m ∧ DrawnM m ∧ SqT c.K H r ((ss.map Stp.name).map V.str) ∧ 1 ≤ ss.length ∧ ss.length ≤ 100 ∧
  ∀ H' v rs, Go [p] H H' → Pot H' p (n + 100) → WatAt c.K H' v rs → turnsIn m ss rs.length → rs[0]? = some m.first → (∀ r ∈ rs, r ∈ setsL m.pages m.first.length) → Q (.ref v) H'
theorem rows_of {K : PySem.W.Frag} {H : Hp} {P : List Str → Prop} : ∀ {ys : List V}, (∀ (i : Nat) (y : V), ys[i]? = some y → ∃ a r, y = .ref a ∧ SqT K H a (r.map V.str) ∧ P r) → ∃ as rs, ys = as.map V.ref ∧ NmsAt K H as rs ∧ ∀ r ∈ rs, P r := by
  intro ys
  induction ys with
  | nil => exact fun _ => ⟨[], [], rfl, ⟨rfl, fun j x r e => by simp at e⟩, fun r h => nomatch h⟩
  | cons y ys ih =>
    intro h
    obtain ⟨a, r, rfl, h1, h2⟩ := h 0 y rfl
    obtain ⟨as, rs, rfl, h3, h4⟩ := ih fun i z e => h (i + 1) z (by simpa using e)
    refine ⟨a :: as, r :: rs, rfl, ⟨by simp [h3.1], fun j x q e1 e2 => ?_⟩, fun q hq => ?_⟩
    · cases j with
      | zero =>
        have e1' : a = x := by simpa using e1
        have e2' : r = q := by simpa using e2
        subst e1' e2'
        exact h1
      | succ j => exact h3.2 j x q (by simpa using e1) (by simpa using e2)
    · rcases List.mem_cons.mp hq with z | z
      · rw [z]; exact h2
      · exact h4 q z
section
variable {c : Wd} {C : Addr}
abbrev s__law_drawn_run : Stmt := topS 59
abbrev N__law_drawn_run : List Str := ["_law_pot", "_law_lore_here", "_law_upto", "_law_run", "_law_tick", "_law_later_here"]
abbrev P__law_drawn_run : List Str := ["_law_pot", "_law_lore_here", "_law_upto"]
theorem sc__law_drawn_run : FnScope N__law_drawn_run P__law_drawn_run (defScope s__law_drawn_run) := ⟨rfl, rfl, rfl, by decide +kernel, rfl, by decide +kernel, by decide +kernel⟩
theorem ok_lrun (F : At c "_law_drawn_run" "_law_drawn_run" s__law_drawn_run P__law_drawn_run) (B : Bi c) (D__law_take : Ok c "_law_take" 1 P__law_take spTake) (D__law_later : Ok c "_law_later" 2 P__law_later (spLLater c)) (D__law_of : Ok c "_law_of" 2 P__law_of (spDrawn c)) :
    Ok c "_law_drawn_run" 3 P__law_drawn_run (spLRun c) := by
  refine Ok.of F sc__law_drawn_run (fun vs H Q E h => ?_) (fun f cdv A out s H vs Q E hr h => ?_)
  · obtain ⟨p, d, m, n, up, rfl, _⟩ := h
    rfl
  · obtain ⟨p, d, m, n, up, rfl, hp, hn, u1, u2, hL, hD, q⟩ := h
    have hu1 := hu_of hr
    have hu := hr.units
    obtain ⟨a1, a2, a3, a5, h1, ⟨vs, k1, k2, k3⟩, _⟩ := hL.ex
    obtain ⟨np, N, k, _, _, _, N1, N8, hdr, _⟩ := hD.ex
    obtain ⟨s0, hs0⟩ : ∃ s, m.steps[0]? = some s := ⟨_, List.getElem?_eq_getElem (by rw [hdr.1]; omega)⟩
    obtain ⟨v0, hv0⟩ : ∃ v, vs[0]? = some v := ⟨_, List.getElem?_eq_getElem (by rw [k2, hdr.1]; omega)⟩
    obtain ⟨b, fl, rfl, e1, e2⟩ := k3 0 v0 s0 hv0 hs0
    have ndp := ne_lore hL hp
    refine ⟨_, (pss_cons (ps_set (i := 3) sc__law_drawn_run.nd rfl (by first | exact Or.inl rfl | exact Or.inr rfl) (pe_tup (pa_cons (pe_ixU (K := c.K) hu1 (pe_ixU (K := c.K) hu1 (pe_ixU (K := c.K) hu1 (pv 1) pe_str (fun _ _ => rfl) (fun _ _ => rfl)) pe_int (fun _ _ => rfl) (fun _ _ => rfl)) pe_int (fun _ _ => rfl) (fun _ _ => rfl)) pa_nil)))
    (pss_cons (ps_for PassesOwn.never rfl (pi_range1 (by rfl) B.range (pa_cons (pe_f D__law_take (hr.mono (by decide)) (by rfl) (pa_cons (pv 0) (pa_cons (pv 2) pa_nil))) pa_nil)) (pg_name (i := 4) sc__law_drawn_run.nd rfl (by first | exact Or.inl rfl | exact Or.inr rfl)) (pss_cons (ps_set (i := 5) sc__law_drawn_run.nd rfl (by first | exact Or.inl rfl | exact Or.inr rfl) (pe_f D__law_later (hr.mono (by decide)) (by rfl) (pa_cons (pv 1) (pa_cons (pe_ixU (K := c.K) hu1 (pv 3) (pe_un un_neg pe_int) (fun _ _ => rfl) (fun _ _ => rfl)) pa_nil))))
    (pss_one (ps_if (pt_cmpR (op_neU (K := c.K) hu) (pv 5) (pe_tup pa_nil) (nomark _)) (pss_one (ps_set (i := 3) sc__law_drawn_run.nd rfl (by first | exact Or.inl rfl | exact Or.inr rfl) (pe_op (op_addU (K := c.K)) (pv 3) (pe_tup (pa_cons (pe_f D__law_of (hr.mono (by decide)) (by rfl) (pa_cons (pv 0) (pa_cons (pv 5) pa_nil))) pa_nil))))) pss_nil))))
    (pss_one (ps_ret (pv 3))))), ?_⟩
    refine .inl (.inl (.inr ⟨_, rfl, d, _, rfl, lget h1 lore_steps, ixT (i := 0) k1 hv0 (ixT (i := 0) e1 rfl (r_nil ⟨by show 1 ≤ sizeLine; decide, fun r0 fr0 => ?_⟩))⟩))
    have g0 : Go [] H (upd H r0 (.tup [.str s0.name])) := Go.new fr0
    have hr0 : SqT c.K (upd H r0 (.tup [.str s0.name])) r0 (([s0].map Stp.name).map V.str) := SqT.of upd_same
    generalize (upd H r0 (.tup [.str s0.name])) = H0 at g0 hr0 ⊢
    refine ⟨_, rfl, _, rfl, p, n, up, rfl, hp.go g0, by omega, by omega, by omega, fun tk H1 htk g1 hp1 => ⟨_, rfl, by omega, by omega, ?_⟩⟩
    refine for_it (walk_range (lo := 0) (n := tk)) (fun i σ H' => Go [p] H H' ∧ Pot H' p (n + 1 + i) ∧ ∃ (r : Addr) (ss : List Stp) (z4 z5 : Option V), SqT c.K H' r ((ss.map Stp.name).map V.str) ∧ runOf m ss ∧ 1 ≤ ss.length ∧ ss.length ≤ i + 1 ∧
      σ = [some (.ref p), some (.ref d), some (.int (up : Int)), some (.ref r), z4, z5]) ⟨g0.wide.trans g1, hp1, r0, [s0], _, _, g1.sqT hr0, run_one hs0, Nat.le_refl _, Nat.le_refl _, rfl⟩ (fun _ _ _ _ _ => trivial) ?_ ?_
    · rintro i y σ H2 H3 hi ⟨g2, hp2, r, ss, z4, z5, m1, m2, m3, m4, rfl⟩ ⟨rfl, rfl⟩
      have hne : ss ≠ [] := List.length_pos_iff.mp m3
      obtain ⟨sl, hsl⟩ : ∃ s, ss.getLast? = some s := by
        cases h : ss.getLast? with
        | none => exact absurd (List.getLast?_eq_none_iff.mp h) hne
        | some s => exact ⟨s, rfl⟩
      obtain ⟨il, hil⟩ := m2.2 sl (List.mem_of_getLast? hsl)
      have hlast : ((ss.map Stp.name).map V.str).getLast? = some (.str sl.name) := by rw [List.getLast?_map, List.getLast?_map, hsl]; rfl
      have hL2 := hL.go g2 (by simpa using ndp)
      refine ⟨_, rfl, .inl ⟨_, rfl, 1, rfl, ixT_last m1 hlast (r_nil ⟨d, m, il, sl, rfl, hL2, hD, hil, fun H4 fl g4 hfl => ?_⟩)⟩⟩
      obtain ⟨ks, ef, f1, f2, f3⟩ := (hdr.2 il sl hil).fol
      have fok : okS sl.fol = true := by
        rw [ef]
        exact ltrs_ok fun k hk => by have := f3 k hk; omega
      have g24 : Go [p] H H4 := g2.trans g4.wide
      refine ⟨_, rfl, Nat.zero_le _, fun e0 fe0 => .inr ⟨namesD sl.fol, .tuple [], dp_names ((Go.new (M := []) fe0).sqT hfl), .tup (SqT.of upd_same) .nil, sh_names fok, by decide, ?_⟩⟩
      rw [eqv_nil]
      have ge : Go [] H4 (upd H4 e0 (.tup [])) := Go.new fe0
      have hfl5 := ge.sqT hfl
      generalize (upd H4 e0 (.tup [])) = H5 at ge hfl5 ⊢
      refine ⟨_, rfl, ?_⟩
      have hp5 := (hp2.go g4).go ge
      have g25 : Go [p] H H5 := g24.trans ge.wide
      by_cases hem : sl.fol = []
      · rw [hem]
        refine (if_neg (by decide)).mpr ⟨g25, hp5.up (by omega), r, ss, _, _, (g4.trans ge).sqT m1, m2, m3, by omega, rfl⟩
      · have hie : sl.fol.isEmpty = false := by
          cases hf : sl.fol with
          | nil => exact absurd hf hem
          | cons a b => rfl
        rw [hie]
        refine (if_pos rfl).mpr ⟨_, rfl, _, rfl, _, rfl, p, fl, n + 1 + i, sl.fol.map V.str, rfl, hp5, by omega, by simpa using hem, by rw [ef]; simp; omega, .inr hfl5, fun r6 v H6 hv g6 hp6 => r_nil ⟨by show 1 ≤ sizeLine; decide, fun w fw => ?_⟩⟩
        obtain ⟨k', hk', rfl⟩ : ∃ k', k' ∈ ks ∧ v = .str (ltr k') := by
          have hm := List.mem_of_getElem? hv
          obtain ⟨q', hq', rfl⟩ := List.mem_map.mp hm
          rw [ef] at hq'
          obtain ⟨k', hk', rfl⟩ := List.mem_map.mp hq'
          exact ⟨k', hk', rfl⟩
        obtain ⟨s2, hs2⟩ : ∃ s, m.steps[k']? = some s := ⟨_, List.getElem?_eq_getElem (by rw [hdr.1]; exact f3 k' hk')⟩
        have hn2 : s2.name = ltr k' := (hdr.2 k' s2 hs2).name
        have gw : Go [] H6 (upd H6 w (.tup [.str (ltr k')])) := Go.new fw
        refine r_catT (gw.sqT (g6.sqT ((g4.trans ge).sqT m1))) (SqT.of upd_same) (by simp only [List.length_map]; rw [sizeLine_eq]; simp; omega) fun r2 H7 g7 hr2 => ?_
        refine ⟨(g25.trans g6).trans (gw.trans g7).wide, ((hp6.go gw).go g7).up (by omega), r2, ss ++ [s2], _, _, ?_, run_snoc m2 hsl hs2 (by rw [hn2, ef]; exact List.mem_map.mpr ⟨k', hk', rfl⟩) (by omega), by simp, by simp; omega, rfl⟩
        rw [List.map_append, List.map_append]
        show SqT c.K H7 r2 ((ss.map Stp.name).map V.str ++ [V.str s2.name])
        rw [hn2]
        exact hr2
    · rintro σ H2 ⟨g2, hp2, r, ss, z4, z5, m1, m2, m3, m4, rfl⟩
      exact ⟨_, rfl, q H2 r ss g2 (hp2.up (by omega)) m1 m2 m3 (by omega)⟩
abbrev s__law_made : Stmt := topS 60
abbrev N__law_made : List Str := ["_law_lore_here"]
abbrev P__law_made : List Str := ["_law_lore_here"]
theorem sc__law_made : FnScope N__law_made P__law_made (defScope s__law_made) := ⟨rfl, rfl, rfl, by decide +kernel, rfl, by decide +kernel, by decide +kernel⟩
theorem ok_lmade (F : At c "_law_made" "_law_made" s__law_made P__law_made) (D_Machine : MkO c "Machine" C 5 P_Machine___init__ (spMac c C)) : Ok c "_law_made" 7 P__law_made (spLMade c C) := by
  refine Ok.of F sc__law_made (fun vs H Q E h => ?_) (fun f cdv A out s H vs Q E hr h => ?_)
  · obtain ⟨d, m, rfl, _⟩ := h
    rfl
  · obtain ⟨d, m, rfl, hL, hD, q⟩ := h
    have hu1 := hu_of hr
    have hB := drawn_right hD
    obtain ⟨cs, hC, hS⟩ := drawn_cs hD
    obtain ⟨a1, a2, a3, a5, h1, h2, h3, h4, h5⟩ := hL.ex
    refine ⟨_, (pss_one (ps_ret (pe_mkO D_Machine (hr.mono (by decide)) (by rfl) (pa_cons (pe_ixU (K := c.K) hu1 (pv 0) pe_str (fun _ _ => rfl) (fun _ _ => rfl)) (pa_cons (pe_ixU (K := c.K) hu1 (pv 0) pe_str (fun _ _ => rfl) (fun _ _ => rfl)) (pa_cons (pe_ixU (K := c.K) hu1 (pv 0) pe_str (fun _ _ => rfl) (fun _ _ => rfl)) (pa_cons (pe_ixU (K := c.K) hu1 (pv 0) pe_str (fun _ _ => rfl) (fun _ _ => rfl)) (pa_cons (pe_ixU (K := c.K) hu1 (pv 0) pe_str (fun _ _ => rfl) (fun _ _ => rfl)) pa_nil)))))))), ?_⟩
    refine .inr ⟨_, rfl, d, _, rfl, lget h1 lore_steps, .inr ⟨_, rfl, d, _, rfl, lget h1 lore_clock, .inr ⟨_, rfl, d, _, rfl, lget h1 lore_pages, .inr ⟨_, rfl, d, _, rfl, lget h1 lore_move, .inr ⟨_, rfl, d, _, rfl, lget h1 lore_first, r_nil fun x dx fx fdx hne => ?_⟩⟩⟩⟩⟩
    have gX : Go [] H (upd (upd H dx (.own x)) x (.ins C dx [])) := (Go.new fdx).trans (Go.new (by rw [upd_ne hne.symm]; exact fx))
    exact ⟨x, a1, a2, a3, a5, dx, m, cs, rfl, upd_same, h2.go gX, gX.sqT h3, gX.sqT h4, gX.sqT h5, hB, hC, fun H13 kp hM => ⟨rfl, q H13 x cs (keep_go fx fdx kp) hM hC hS⟩⟩
end
end Sd

/-! L05j: the law's look at prices of drawn rows -/
namespace Sd
open PySem PySem.Spec PyProof.Rows L2 RZ RT
theorem piled_le {L : Nat} : ∀ {ts : List Str}, (∀ t ∈ ts, t.length ≤ L) → piled ts ≤ ts.length * (L + 2)
  | [], _ => by simp [piled]
  | t :: ts, h => by
    have h1 := h t List.mem_cons_self
    have h2 := piled_le (ts := ts) fun x hx => h x (List.mem_cons_of_mem _ hx)
    have e : piled (t :: ts) = t.length + 2 + piled ts := by simp [piled]
    rw [e, List.length_cons, Nat.succ_mul]
    omega
theorem shownAll_map : ∀ xs : List PyData, PyData.shownAll xs = xs.map PyData.shown
  | [] => rfl
  | x :: xs => by
    show x.shown :: PyData.shownAll xs = _
    rw [shownAll_map xs]
    rfl
theorem tup_shown {xs : List PyData} {L : Nat} (h : ∀ x ∈ xs, x.shown.length ≤ L) : (PyData.tuple xs).shown.length ≤ xs.length * (L + 2) + 3 := by
  have e : (PyData.tuple xs).shown = tupleText (xs.map PyData.shown) := by
    show tupleText (PyData.shownAll xs) = _
    rw [shownAll_map]
  rw [e]
  unfold tupleText
  rw [strLen_append, strLen_append]
  have e1 : ("(" : Str).length = 1 := rfl
  have e2 : ((if (xs.map PyData.shown).length == 1 then ",)" else ")" : String) : Str).length ≤ 2 := by
    split <;> decide +kernel
  by_cases hx : xs = []
  · subst hx
    have e3 : (Str.join ", " (([] : List PyData).map PyData.shown)).length = 0 := by decide +kernel
    rw [e1, e3]
    simp only [List.length_nil]
    omega
  · have h1 := join_length_add (xs.map PyData.shown) (by simpa using hx)
    have h2 := piled_le (ts := xs.map PyData.shown) (L := L) fun t ht => by
      obtain ⟨x, hx, rfl⟩ := List.mem_map.mp ht
      exact h x hx
    rw [List.length_map] at h2
    omega
/-- texts that show in three signs -/
def tinyB (s : Str) : Bool := decide ((PyData.str s).shown.length ≤ 3)
theorem ltr_tiny {k : Nat} (h : k < 8) : tinyB (ltr k) = true := by
  rcases (by omega : k = 0 ∨ k = 1 ∨ k = 2 ∨ k = 3 ∨ k = 4 ∨ k = 5 ∨ k = 6 ∨ k = 7) with z | z | z | z | z | z | z | z <;> subst z <;> decide +kernel
theorem pqrs_tiny : ∀ p ∈ pqrs, tinyB p = true := by decide +kernel
theorem names_len {ss : List Str} (h : ∀ s ∈ ss, tinyB s = true) : (namesD ss).shown.length ≤ ss.length * 5 + 3 := by
  have := tup_shown (xs := ss.map PyData.str) (L := 3) fun x hx => by
    obtain ⟨s, hs, rfl⟩ := List.mem_map.mp hx
    exact of_decide_eq_true (h s hs)
  rw [List.length_map] at this
  exact this
theorem names_show : ∀ ss : List Str, PyData.showableAll (ss.map PyData.str) = true
  | [] => rfl
  | s :: ss => by
    show (true && PyData.showableAll (ss.map PyData.str)) = true
    rw [names_show ss]
    rfl
def rowsD (rs : List (List Str)) : PyData := .tuple (rs.map namesD)
theorem rows_show : ∀ rs : List (List Str), PyData.showableAll (rs.map namesD) = true
  | [] => rfl
  | r :: rs => by
    show (PyData.showableAll (r.map PyData.str) && PyData.showableAll (rs.map namesD)) = true
    rw [names_show r, rows_show rs]
    rfl
theorem rows_len {rs : List (List Str)} {k : Nat} (h : ∀ r ∈ rs, r.length ≤ k ∧ ∀ s ∈ r, tinyB s = true) : (rowsD rs).shown.length ≤ rs.length * (k * 5 + 5) + 3 := by
  have := tup_shown (xs := rs.map namesD) (L := k * 5 + 3) fun x hx => by
    obtain ⟨r, hr, rfl⟩ := List.mem_map.mp hx
    have h1 := names_len (h r hr).2
    have h2 := (h r hr).1
    have h3 : r.length * 5 ≤ k * 5 := Nat.mul_le_mul_right 5 h2
    omega
  rw [List.length_map] at this
  exact this
theorem rows_dep : ∀ rs : List (List Str), PyData.depthAll (rs.map namesD) ≤ 1
  | [] => Nat.zero_le _
  | r :: rs => by
    show max (namesD r).depth (PyData.depthAll (rs.map namesD)) ≤ 1
    rw [dep_names]
    have := rows_dep rs
    omega
/-- a run beside a row -/
def bothD (ns : List Str) (rs : List (List Str)) : PyData := .tuple [namesD ns, rowsD rs]
theorem both_show (ns : List Str) (rs : List (List Str)) : (bothD ns rs).showable = true := by
  show ((PyData.showableAll (ns.map PyData.str)) && ((PyData.showableAll (rs.map namesD)) && true)) = true
  rw [names_show, rows_show]
  rfl
theorem both_dep (ns : List Str) (rs : List (List Str)) : (bothD ns rs).depth ≤ 3 := by
  show max (namesD ns).depth (max (rowsD rs).depth 0) + 1 ≤ 3
  have h1 := dep_names ns
  have h2 : (rowsD rs).depth ≤ 2 := by
    show PyData.depthAll (rs.map namesD) + 1 ≤ 2
    have := rows_dep rs
    omega
  omega
theorem both_len {ns : List Str} {rs : List (List Str)} {a b : Nat} (h1 : (namesD ns).shown.length ≤ a) (h2 : (rowsD rs).shown.length ≤ b) : (bothD ns rs).shown.length ≤ 2 * (a + b + 2) + 3 := by
  have := tup_shown (xs := [namesD ns, rowsD rs]) (L := a + b) fun x hx => by
    rcases List.mem_cons.mp hx with z | z
    · rw [z]; omega
    · rw [List.mem_singleton.mp z]; omega
  exact this
theorem paid_small {m : Mac} {ss : List Stp} {rs : List (List Str)} (hm : m.move ≤ 9) (hs : ss.length ≤ 1000) (hr : ∀ r ∈ rs, r.length ≤ 1000) : ∀ i, i ≤ rs.length → 0 ≤ paidL m ss rs i ∧ paidL m ss rs i ≤ (i : Int) * 10000
  | 0, _ => ⟨Int.le_refl _, Int.le_refl _⟩
  | i + 1, h => by
    obtain ⟨h1, h2⟩ := paid_small hm hs hr i (by omega)
    have a : slowS (tS m.clock ss i) (rs.getD i []) ≤ 1000 := by
      unfold slowS
      refine Nat.le_trans (List.length_filter_le _ _) ?_
      rw [List.length_map]
      exact Nat.le_trans (len_tS _ _ _) hs
    have b : (comeS (rs.getD (i - 1) []) (rs.getD i [])).length ≤ 1000 := by
      refine Nat.le_trans (List.length_filter_le _ _) ?_
      rw [List.getD_eq_getElem?_getD, List.getElem?_eq_getElem (by omega)]
      exact hr _ (List.getElem_mem (by omega))
    have c : (m.move : Int) * ((comeS (rs.getD (i - 1) []) (rs.getD i [])).length : Nat) ≤ 9000 := by
      have : m.move * (comeS (rs.getD (i - 1) []) (rs.getD i [])).length ≤ 9 * 1000 := Nat.mul_le_mul hm b
      exact_mod_cast this
    have c0 : 0 ≤ (m.move : Int) * ((comeS (rs.getD (i - 1) []) (rs.getD i [])).length : Nat) := by exact_mod_cast Nat.zero_le _
    unfold paidL
    rw [show ((i + 1 : Nat) : Int) * 10000 = (i : Int) * 10000 + 10000 by omega]
    split
    · constructor <;> omega
    · constructor <;> omega
theorem int_shows {i : Int} (h0 : 0 ≤ i) (h1 : i ≤ 10000000) : (PyData.int i).showable = true ∧ (PyData.int i).shown.length ≤ 1921 := by
  have : i.natAbs.log2 < 1920 := by
    have := Nat.log2_le_self i.natAbs
    have h2 : i.natAbs < 2 ^ 24 := by omega
    have h3 := PySem.Flt.log2_lt_of (show 0 < 24 by decide) h2
    omega
  exact ⟨decide_eq_true this, int_text_len_1921 this⟩
end Sd

/-! L10m: what a watch has seen, turn by turn and page by page -/
namespace Sd
open PySem PySem.Spec PyProof.Rows L2 RZ RT
/-- so many turns are whole -/
def fullIn (m : Mac) (ss : List Stp) (k : Nat) : Prop := stF m.clock k ≤ ss.length ∧ ss.length < stF m.clock (k + 1)
/-- since when a page has not been looked for -/
def sinceS (m : Mac) (ws : List (List Str)) (w : Str) : Nat → Nat
  | 0 => 0
  | i + 1 => if w ∈ ws.getD (i % m.clock.length) [] then stF m.clock (i + 1) else sinceS m ws w i
def segS (ss : List Stp) (a b : Nat) : List Stp := (ss.take b).drop a
def markB (m : Mac) (ws : List (List Str)) (ss : List Stp) (w : Str) (i : Nat) : Bool := decide (some w ∈ (segS ss (sinceS m ws w i) (stF m.clock (i + 1))).map Stp.page)
def dueS (m : Mac) (ws : List (List Str)) (ss : List Stp) : Nat → List (List Bool)
  | 0 => []
  | i + 1 => dueS m ws ss i ++ [(ws.getD (i % m.clock.length) []).map fun w => markB m ws ss w i]
theorem since_le (m : Mac) (ws : List (List Str)) (w : Str) : ∀ i, sinceS m ws w i ≤ stF m.clock i
  | 0 => Nat.le_refl _
  | i + 1 => by
    unfold sinceS
    split
    · exact Nat.le_refl _
    · exact Nat.le_trans (since_le m ws w i) (stF_mono m.clock (Nat.le_succ i))
theorem due_len (m : Mac) (ws : List (List Str)) (ss : List Stp) : ∀ i, (dueS m ws ss i).length = i
  | 0 => rfl
  | i + 1 => by
    unfold dueS
    rw [List.length_append, due_len m ws ss i]
    rfl
theorem due_take (m : Mac) (ws : List (List Str)) (ss : List Stp) {k : Nat} : ∀ {n}, k ≤ n → (dueS m ws ss n).take k = dueS m ws ss k := by
  intro n
  induction n with
  | zero =>
    intro h
    obtain rfl : k = 0 := by omega
    rfl
  | succ n ih =>
    intro h
    by_cases e : k = n + 1
    · subst e
      exact List.take_of_length_le (by rw [due_len]; exact Nat.le_refl _)
    · have h1 := ih (by omega)
      conv => lhs; unfold dueS
      rw [List.take_append_of_le_length (by rw [due_len]; omega)]
      exact h1
theorem due_part (m : Mac) (ws : List (List Str)) (ss : List Stp) {q : Nat} : ∀ {i}, stF m.clock i ≤ q → dueS m ws (ss.take q) i = dueS m ws ss i := by
  intro i
  induction i with
  | zero => exact fun _ => rfl
  | succ i ih =>
    intro h
    unfold dueS
    rw [ih (Nat.le_trans (stF_mono m.clock (Nat.le_succ i)) h)]
    have e : ∀ w, markB m ws (ss.take q) w i = markB m ws ss w i := fun w => by
      unfold markB segS
      rw [List.take_take, Nat.min_eq_left h]
    rw [show (fun w => markB m ws (ss.take q) w i) = fun w => markB m ws ss w i from funext e]
theorem full_le {m : Mac} {ss ss' : List Stp} {k k' : Nat} (h : fullIn m ss k) (h' : fullIn m ss' k') (hl : ss'.length ≤ ss.length) : k' ≤ k := by
  rcases Nat.lt_or_ge k k' with z | z
  · have := stF_mono m.clock (show k + 1 ≤ k' from z)
    have := h.2
    have := h'.1
    omega
  · exact z
theorem tS_full {m : Mac} {ss : List Stp} {i : Nat} (h : stF m.clock (i + 1) ≤ ss.length) : (tS m.clock ss i).length = m.clock.getD (i % m.clock.length) 0 := by
  have e : stF m.clock (i + 1) = stF m.clock i + m.clock.getD (i % m.clock.length) 0 := rfl
  unfold tS
  rw [List.length_take, List.length_drop]
  omega
theorem seg_join {m : Mac} {ss : List Stp} {i a : Nat} (ha : a ≤ stF m.clock i) (h : stF m.clock i ≤ ss.length) : segS ss a (stF m.clock i) ++ tS m.clock ss i = segS ss a (stF m.clock (i + 1)) := by
  have e : stF m.clock (i + 1) = stF m.clock i + m.clock.getD (i % m.clock.length) 0 := rfl
  unfold segS tS
  rw [e, List.take_add, List.drop_append_of_le_length (by rw [List.length_take]; omega)]
theorem mem_with {m : Mac} {ps : List Str} {ss : List Stp} {p : Str} : p ∈ withS m ps ss ↔ p ∈ m.pages ∧ (p ∈ ps ∨ some p ∈ ss.map Stp.page) := by
  unfold withS
  rw [List.mem_filter, Bool.or_eq_true, decide_eq_true_eq, decide_eq_true_eq]
theorem seen_due {m : Mac} {ws : List (List Str)} {ss : List Stp} (hw : watchB m ws = true) : ∀ {i}, stF m.clock i ≤ ss.length →
    (seenS m ws ss i).1 = dueS m ws ss i ∧ ∀ p, p ∈ (seenS m ws ss i).2 ↔ p ∈ m.pages ∧ some p ∈ (segS ss (sinceS m ws p i) (stF m.clock i)).map Stp.page := by
  intro i
  induction i with
  | zero =>
    intro _
    refine ⟨rfl, fun p => ⟨fun h => (nomatch h), fun h => ?_⟩⟩
    have e : segS ss (sinceS m ws p 0) (stF m.clock 0) = [] := by
      show (ss.take 0).drop 0 = []
      simp
    rw [e] at h
    exact nomatch h.2
  | succ i ih =>
    intro h
    have hi : stF m.clock i ≤ ss.length := Nat.le_trans (stF_mono m.clock (Nat.le_succ i)) h
    obtain ⟨i1, i2⟩ := ih hi
    have hin : ∀ w ∈ ws.getD (i % m.clock.length) [], w ∈ m.pages := by
      simp only [watchB, Bool.and_eq_true, decide_eq_true_eq, List.all_eq_true] at hw
      intro w hww
      rw [List.getD_eq_getElem?_getD] at hww
      cases e : ws[i % m.clock.length]? with
      | none => rw [e] at hww; cases hww
      | some fs =>
        rw [e] at hww
        have := hw.2 fs (List.mem_of_getElem? e)
        simp only [watB, Bool.and_eq_true, decide_eq_true_eq, List.all_eq_true] at this
        exact this.2.2 w hww
    have key : ∀ p, p ∈ withS m (seenS m ws ss i).2 (tS m.clock ss i) ↔ p ∈ m.pages ∧ some p ∈ (segS ss (sinceS m ws p i) (stF m.clock (i + 1))).map Stp.page := fun p => by
      rw [mem_with, i2, ← seg_join (since_le m ws p i) hi, List.map_append, List.mem_append]
      constructor
      · rintro ⟨a, b | b⟩
        · exact ⟨a, .inl b.2⟩
        · exact ⟨a, .inr b⟩
      · rintro ⟨a, b | b⟩
        · exact ⟨a, .inl ⟨a, b⟩⟩
        · exact ⟨a, .inr b⟩
    have e : seenS m ws ss (i + 1) = ((seenS m ws ss i).1 ++ [marksS (ws.getD (i % m.clock.length) []) (withS m (seenS m ws ss i).2 (tS m.clock ss i))], (withS m (seenS m ws ss i).2 (tS m.clock ss i)).filter fun x => decide (x ∉ ws.getD (i % m.clock.length) [])) := by
      conv => lhs; unfold seenS
      rw [if_pos (tS_full h)]
    rw [e]
    refine ⟨?_, fun p => ?_⟩
    · show _ ++ [_] = _ ++ [_]
      rw [i1]
      congr 2
      unfold marksS
      refine List.map_congr_left fun w hww => ?_
      unfold markB
      exact decide_eq_decide.mpr ((key w).trans ⟨fun z => z.2, fun z => ⟨hin w hww, z⟩⟩)
    · show p ∈ List.filter _ _ ↔ _
      rw [List.mem_filter, key p, decide_eq_true_eq]
      by_cases hp : p ∈ ws.getD (i % m.clock.length) []
      · have es : sinceS m ws p (i + 1) = stF m.clock (i + 1) := by
          conv => lhs; unfold sinceS
          rw [if_pos hp]
        have en : segS ss (sinceS m ws p (i + 1)) (stF m.clock (i + 1)) = [] := by
          rw [es]
          unfold segS
          rw [List.drop_eq_nil_of_le (by rw [List.length_take]; omega)]
        rw [en]
        exact ⟨fun z => absurd hp z.2, fun z => nomatch z.2⟩
      · have es : sinceS m ws p (i + 1) = sinceS m ws p i := by
          conv => lhs; unfold sinceS
          rw [if_neg hp]
        rw [es]
        exact ⟨fun z => z.1, fun z => ⟨z, hp⟩⟩
theorem seen_full {m : Mac} {ws : List (List Str)} {ss : List Stp} {n k : Nat} (hB : macB m = true) (hw : watchB m ws = true) (hn : turnsIn m ss n) (hk : fullIn m ss k) : (seenS m ws ss n).1 = dueS m ws ss k := by
  have hc := (clk hB k).2.1
  have estep : ∀ j, stF m.clock (j + 1) = stF m.clock j + m.clock.getD (j % m.clock.length) 0 := fun j => rfl
  obtain ⟨k1, k2⟩ := hk
  by_cases e : ss.length = stF m.clock k
  · have ht : turnsIn m ss k := by
      refine ⟨by omega, ?_⟩
      cases k with
      | zero => exact .inl rfl
      | succ j =>
        refine .inr ?_
        have := (clk hB j).2.1
        have := estep j
        show stF m.clock j < _
        omega
    rw [turns_one hn ht]
    exact (seen_due hw k1).1
  · have ht : turnsIn m ss (k + 1) := ⟨by omega, .inr (by show stF m.clock k < _; omega)⟩
    rw [turns_one hn ht]
    have hne : ¬ (tS m.clock ss k).length = m.clock.getD (k % m.clock.length) 0 := by
      unfold tS
      rw [List.length_take, List.length_drop]
      have := estep k
      omega
    have es : (seenS m ws ss (k + 1)).1 = (seenS m ws ss k).1 := by
      conv => lhs; unfold seenS
      rw [if_neg hne]
    rw [es]
    exact (seen_due hw k1).1
theorem run_part {m : Mac} {ss : List Stp} {q : Nat} (h : runOf m ss) (hq : 1 ≤ q) : runOf m (ss.take q) := by
  obtain ⟨⟨⟨s0, b1, b2⟩, nx, few⟩, hin⟩ := h
  refine ⟨⟨⟨s0, b1, ?_⟩, fun j a b h1 h2 => ?_, ?_⟩, fun s hs => hin s (List.mem_of_mem_take hs)⟩
  · rw [List.map_take, List.getElem?_take_of_lt hq]
    exact b2
  · rw [List.map_take] at h1 h2
    have hj : j + 1 < q := by
      rcases Nat.lt_or_ge (j + 1) q with z | z
      · exact z
      · rw [List.getElem?_eq_none (by rw [List.length_take]; omega)] at h2
        cases h2
    rw [List.getElem?_take_of_lt (by omega)] at h1
    rw [List.getElem?_take_of_lt hj] at h2
    exact nx j a b h1 h2
  · rw [List.map_take, List.length_take]
    omega
theorem in_touched (ss : List Stp) (w : Str) : decide (w ∈ (ss.map Stp.page).filterMap id) = decide (some w ∈ ss.map Stp.page) := by
  refine decide_eq_decide.mpr ?_
  rw [List.mem_filterMap]
  exact ⟨fun ⟨a, h1, h2⟩ => by have : a = some w := h2; rw [← this]; exact h1, fun h => ⟨some w, h, rfl⟩⟩
/-- what a page's dict of marks holds -/
def MkD (m : Mac) (ws : List (List Str)) (ss : List Stp) (w : Str) (kvs : List (Key × V)) (i : Nat) : Prop := kvs.length ≤ i ∧ ∀ j, j < i → w ∈ ws.getD (j % m.clock.length) [] → valV kvs (.inl (j : Int)) = some (.bl (markB m ws ss w j))
theorem MkD.put {m : Mac} {ws : List (List Str)} {ss : List Stp} {w : Str} {kvs : List (Key × V)} {i : Nat} (h : MkD m ws ss w kvs i) : MkD m ws ss w (putK kvs (.inl (i : Int)) (.bl (markB m ws ss w i))) (i + 1) := by
  refine ⟨Nat.le_trans (length_putK _ _ _) (by have := h.1; omega), fun j hj hw => ?_⟩
  rw [valV_put]
  by_cases e : j = i
  · subst e
    rw [if_pos rfl]
  · rw [if_neg (fun z => e (by have := Sum.inl.inj z; omega))]
    exact h.2 j (by omega) hw
theorem MkD.skip {m : Mac} {ws : List (List Str)} {ss : List Stp} {w : Str} {kvs : List (Key × V)} {i : Nat} (h : MkD m ws ss w kvs i) (hn : w ∉ ws.getD (i % m.clock.length) []) : MkD m ws ss w kvs (i + 1) := by
  refine ⟨by have := h.1; omega, fun j hj hw => ?_⟩
  by_cases e : j = i
  · subst e
    exact absurd hw hn
  · exact h.2 j (by omega) hw
/-- part of the pages, in their order -/
def subsL : List Str → List (List Str)
  | [] => [[]]
  | p :: ps => subsL ps ++ (subsL ps).map (p :: ·)
theorem subsL_mem {fs ps : List Str} (h : fs.Sublist ps) : fs ∈ subsL ps := by
  induction h with
  | slnil => exact List.mem_singleton.mpr rfl
  | cons a _ ih => exact List.mem_append_left _ ih
  | cons_cons a _ ih => exact List.mem_append_right _ (List.mem_map.mpr ⟨_, ih, rfl⟩)
theorem subs_right : ∀ np, 2 ≤ np → np ≤ 4 → ∀ fs ∈ subsL (pqrs.take np), watB (pqrs.take np) fs = true := by
  intro np h1 h2
  rcases (by omega : np = 2 ∨ np = 3 ∨ np = 4) with z | z | z <;> subst z <;> decide +kernel
theorem sub_watch {m : Mac} (hD : DrawnM m) {ws : List (List Str)} (hl : ws.length = m.clock.length) (h : ∀ fs ∈ ws, fs.Sublist m.pages) : watchB m ws = true := by
  obtain ⟨np, N, k, hp, n2, n4, _⟩ := hD.ex
  simp only [watchB, Bool.and_eq_true, decide_eq_true_eq, List.all_eq_true]
  refine ⟨hl, fun fs hf => ?_⟩
  have := subsL_mem (h fs hf)
  rw [hp] at this ⊢
  exact subs_right np n2 n4 fs this
theorem due_short {m : Mac} {ws : List (List Str)} {ss : List Stp} (h : ∀ fs ∈ ws, fs.length ≤ 4) : ∀ i, ∀ bs ∈ dueS m ws ss i, bs.length ≤ 4
  | 0, bs, hb => nomatch hb
  | i + 1, bs, hb => by
    unfold dueS at hb
    rcases List.mem_append.mp hb with z | z
    · exact due_short h i bs z
    · rw [List.mem_singleton.mp z, List.length_map, List.getD_eq_getElem?_getD]
      cases e : ws[i % m.clock.length]? with
      | none => exact Nat.zero_le _
      | some fs => exact h fs (List.mem_of_getElem? e)
end Sd

/-! L10a: drawn watches -/
namespace Sd
open PySem PySem.Spec PyProof.Rows L2 RZ RT
def spLWatch (c : Wd) : Sp := fun vs H Q _ => ∃ (p d : Addr) (m : Mac) (n : Nat), vs = [.ref p, .ref d] ∧ Pot H p n ∧ n ≤ 2 ^ 28 ∧ LoreAt c.K H d m ∧ DrawnM m ∧
  ∀ H' w ws, Go [p] H H' → Pot H' p (n + 12) → WatAt c.K H' w ws → ws.length = m.clock.length → (∀ fs ∈ ws, fs.Sublist m.pages) → Q (.ref w) H'
section
variable {c : Wd}
abbrev s__law_drawn_watch : Stmt := topS 58
abbrev N__law_drawn_watch : List Str := ["_law_pot", "_law_lore_here", "_law_found", "_law_turn", "_law_own", "_law_page"]
abbrev P__law_drawn_watch : List Str := ["_law_pot", "_law_lore_here"]
theorem sc__law_drawn_watch : FnScope N__law_drawn_watch P__law_drawn_watch (defScope s__law_drawn_watch) := ⟨rfl, rfl, rfl, by decide +kernel, rfl, by decide +kernel, by decide +kernel⟩
theorem ok_lwatch (F : At c "_law_drawn_watch" "_law_drawn_watch" s__law_drawn_watch P__law_drawn_watch) (B : Bi c) (D__law_take : Ok c "_law_take" 1 P__law_take spTake) : Ok c "_law_drawn_watch" 2 P__law_drawn_watch (spLWatch c) := by
  refine Ok.of F sc__law_drawn_watch (fun vs H Q E h => ?_) (fun f cdv A out s H vs Q E hr h => ?_)
  · obtain ⟨p, d, m, n, rfl, _⟩ := h
    rfl
  · obtain ⟨p, d, m, n, rfl, hp, hn, hL, hD, q⟩ := h
    have hu1 := hu_of hr
    have hu := hr.units
    have hB := drawn_right hD
    have cl3 : m.clock.length ≤ 3 := by
      simp only [macB, clockB, Bool.and_eq_true, decide_eq_true_eq] at hB
      exact hB.2.1.2.1
    have pl4 : m.pages.length ≤ 4 := by
      simp only [macB, pagesB, Bool.and_eq_true, decide_eq_true_eq] at hB
      exact hB.2.2.1.2.2.1
    have ndp := ne_lore hL hp
    obtain ⟨a1, a2, a3, a5, h1, h2, h3, h4, h5⟩ := hL.ex
    have hcl : (intsV m.clock).length = m.clock.length := by simp [intsV]
    have hpl : (m.pages.map V.str).length = m.pages.length := by simp
    refine ⟨_, (pss_cons (ps_set (i := 2) sc__law_drawn_watch.nd rfl (by first | exact Or.inl rfl | exact Or.inr rfl) (pe_lst pa_nil))
    (pss_cons (ps_for PassesOwn.never rfl (pi_seq (K := c.K) (pe_ixU (K := c.K) hu1 (pv 1) pe_str (fun _ _ => rfl) (fun _ _ => rfl))) (pg_name (i := 3) sc__law_drawn_watch.nd rfl (by first | exact Or.inl rfl | exact Or.inr rfl)) (pss_cons (ps_set (i := 4) sc__law_drawn_watch.nd rfl (by first | exact Or.inl rfl | exact Or.inr rfl) (pe_lst pa_nil))
    (pss_cons (ps_for PassesOwn.never rfl (pi_seq (K := c.K) (pe_ixU (K := c.K) hu1 (pv 1) pe_str (fun _ _ => rfl) (fun _ _ => rfl))) (pg_name (i := 5) sc__law_drawn_watch.nd rfl (by first | exact Or.inl rfl | exact Or.inr rfl)) (pss_one (ps_expr (pe_bm PySem.F.plainAttrs_list PySem.F.slot_list_extend PySem.F.type_list_extend mt_extend (pv 4) (pa_cons (pe_op op_mulU (pe_lst (pa_cons (pv 5) pa_nil)) (pe_callTy call_intU (by rfl) B.int (by decide +kernel) (pa_cons (pe_cmpR op_gtU (pe_f D__law_take (hr.mono (by decide)) (by rfl) (pa_cons (pv 0) (pa_cons pe_int pa_nil))) pe_int (nomark _)) pa_nil))) pa_nil)))))
    (pss_one (ps_expr (pe_bm PySem.F.plainAttrs_list PySem.F.slot_list_append PySem.F.type_list_append mt_append (pv 2) (pa_cons (pe_callTy (call_tupU (K := c.K)) (by rfl) B.tuple (by decide +kernel) (pa_cons (pv 4) pa_nil)) pa_nil)))))))
    (pss_one (ps_ret (pe_callTy (call_tupU (K := c.K)) (by rfl) B.tuple (by decide +kernel) (pa_cons (pv 2) pa_nil)))))), ?_⟩
    refine ⟨Nat.zero_le _, fun t ft => ?_⟩
    have ntp : t ≠ p := fun e => by
      obtain ⟨_, _, _, e1, _⟩ := id hp
      rw [e, e1] at ft
      cases ft
    have g0 : Go [] H (upd H t (.lst [])) := Go.new ft
    have d0 := g0.old d _ (fun z => nomatch z) h1
    refine .inl (.inr (.inr ⟨_, rfl, d, _, rfl, lget d0 lore_clock, a2, rfl, ⟨_, g0.sqT h3⟩, ?_⟩))
    refine for_it (walk_tup (xs := intsV m.clock)) (fun i σ H' => Go [p] H H' ∧ Pot H' p (n + 4 * i) ∧ ∃ (as : List Addr) (ws : List (List Str)) (z3 z4 z5 : Option V), H' t = some (.lst (as.map V.ref)) ∧ NmsAt c.K H' as ws ∧ as.length = i ∧ (∀ fs ∈ ws, fs.Sublist m.pages) ∧
      σ = [some (.ref p), some (.ref d), some (.ref t), z3, z4, z5]) ?_ (fun i σ H' _ h => h.1.sqT h3) ?_ ?_
    · exact ⟨g0.wide, hp.go g0, [], [], _, _, _, upd_same, ⟨rfl, fun j x r e => by simp at e⟩, rfl, (fun fs h => nomatch h), rfl⟩
    · rintro i x σ H2 H3 hi ⟨g2, hp2, as, ws, z3, z4, z5, k1, k2, k3, k4, rfl⟩ ⟨rfl, hx⟩
      rw [hcl] at hi
      refine ⟨Nat.zero_le _, fun lt flt => ?_⟩
      have ltp : lt ≠ p := fun e => by
        obtain ⟨_, _, _, e1, _⟩ := id hp2
        rw [e, e1] at flt
        cases flt
      have ltt : lt ≠ t := fun e => by rw [e, k1] at flt; cases flt
      have g4 : Go [] H3 (upd H3 lt (.lst [])) := Go.new flt
      have flt0 : H lt = none := by
        cases e : H lt with
        | none => rfl
        | some o =>
          have := g2.old lt o (by simpa using ltp) e
          rw [this] at flt
          cases flt
      have d4 := g4.old d _ (fun z => nomatch z) (g2.old d _ (by simpa using ndp) h1)
      refine .inl (.inr (.inr ⟨_, rfl, d, _, rfl, lget d4 lore_pages, a3, rfl, ⟨_, g4.sqT (g2.sqT h4)⟩, ?_⟩))
      refine for_it (walk_tup (xs := m.pages.map V.str)) (fun j σ H' => Go [p] H H' ∧ Pot H' p (n + 4 * i + j) ∧ H' t = some (.lst (as.map V.ref)) ∧ NmsAt c.K H' as ws ∧
        ∃ (os : List Str) (y5 : Option V), H' lt = some (.lst (os.map V.str)) ∧ os.Sublist (m.pages.take j) ∧ σ = [some (.ref p), some (.ref d), some (.ref t), some x, some (.ref lt), y5]) ?_ (fun j σ H' _ h => h.1.sqT h4) ?_ ?_
      · exact ⟨g2.trans g4.wide, hp2.go g4, g4.old t _ (fun z => nomatch z) k1, k2.go g4, [], _, upd_same, List.nil_sublist _, rfl⟩
      · rintro j y σ H4 H5 hj ⟨g5, hp4, m1, m4, os, y5, m5, m6, rfl⟩ ⟨rfl, hy⟩
        rw [hpl] at hj
        have ey := str_at hy
        subst ey
        obtain ⟨pg, hpg⟩ : ∃ pg, m.pages[j]? = some pg := ⟨_, List.getElem?_eq_getElem hj⟩
        have epg : m.pages.getD j Str.empty = pg := by rw [List.getD_eq_getElem?_getD, hpg]; rfl
        rw [epg]
        refine ⟨_, rfl, .inl ⟨rfl, _, SqL.of m5⟩, _, rfl, by show 1 ≤ sizeLine; decide, fun b1 fb1 => ?_⟩
        have gb1 : Go [] H5 (upd H5 b1 (.lst [.str pg])) := Go.new fb1
        have hb1 : (upd H5 b1 (.lst [.str pg])) b1 = some (.lst [.str pg]) := upd_same
        have b1p : b1 ≠ p := fun e => by
          obtain ⟨_, _, _, e1, _⟩ := id hp4
          rw [e, e1] at fb1
          cases fb1
        refine ⟨_, rfl, p, n + 4 * i + j, 5, rfl, hp4.go gb1, by omega, by decide, by decide, fun r H6 hr6 g6 hp6 => r_gtI (.inr ⟨_, rfl, ?_⟩)⟩
        have hb16 := g6.old b1 _ (by simpa using b1p) hb1
        have eu : (if decide ((r : Int) > 1) = true then (1 : Int) else 0) = ((if 1 < r then 1 else 0 : Nat) : Int) := by
          by_cases h0 : 1 < r
          · rw [if_pos h0, decide_eq_true (by omega)]
            rfl
          · rw [if_neg h0, decide_eq_false (by omega)]
            rfl
        rw [eu]
        obtain ⟨u, hu'⟩ : ∃ u : Nat, u = if 1 < r then 1 else 0 := ⟨_, rfl⟩
        rw [← hu']
        have u1 : u ≤ 1 := by
          rw [hu']
          split <;> omega
        refine .inr ⟨b1, (u : Int), [.str pg], rfl, rfl, hb16, by omega, by omega, by rw [sizeLine_eq]; simp; omega, fun b2 fb2 => ?_⟩
        have el : (List.replicate ((u : Int)).toNat [V.str pg]).flatten = (if u = 0 then [] else [pg]).map V.str := by
          rw [Int.toNat_natCast]
          rcases (by omega : u = 0 ∨ u = 1) with z | z <;> rw [z] <;> rfl
        rw [el]
        have gb2 : Go [] H6 (upd H6 b2 (.lst ((if u = 0 then [] else [pg]).map V.str))) := Go.new fb2
        have hb2 : (upd H6 b2 (.lst ((if u = 0 then [] else [pg]).map V.str))) b2 = some (.lst ((if u = 0 then [] else [pg]).map V.str)) := upd_same
        have G : Go [p] H5 (upd H6 b2 (.lst ((if u = 0 then [] else [pg]).map V.str))) := gb1.wide.trans (g6.trans gb2.wide)
        have hp7 := hp6.go gb2
        generalize (upd H6 b2 (.lst ((if u = 0 then [] else [pg]).map V.str))) = H7 at hb2 G hp7 ⊢
        have lt7 := G.old lt _ (by simpa using ltp) m5
        have t7 := G.old t _ (by simpa using ntp) m1
        have ol : os.length ≤ 4 := by
          have := m6.length_le
          rw [List.length_take] at this
          omega
        have le1 : (if u = 0 then [] else [pg]).length ≤ 1 := by split <;> simp
        refine r_nil ⟨lt, b2, _, _, rfl, rfl, lt7, hb2, by simp only [List.length_map]; rw [sizeLine_eq]; omega, ?_⟩
        have gp : Go [lt] H7 (upd H7 lt (.lst (os.map V.str ++ (if u = 0 then [] else [pg]).map V.str))) := Go.put lt7 rfl (List.Mem.head _)
        refine ⟨(g5.trans G).mut flt0, ?_, ?_, (m4.go G).go gp, os ++ (if u = 0 then [] else [pg]), _, ?_, ?_, rfl⟩
        · obtain ⟨x1, x2, x3, x4, x5⟩ := hp7
          exact ⟨x1, x2, x3, by rw [upd_ne ltp.symm]; exact x4, by omega⟩
        · rw [upd_ne ltt.symm]
          exact t7
        · rw [List.map_append]
          exact upd_same
        · have e1 : m.pages.take (j + 1) = m.pages.take j ++ [pg] := by
            rw [List.take_add_one, hpg]
            rfl
          rw [e1]
          refine m6.append ?_
          split
          · exact List.nil_sublist _
          · exact List.Sublist.refl _
      · rintro σ H4 ⟨g5, hp4, m1, m4, os, y5, m5, m6, rfl⟩
        rw [hpl] at hp4 m6
        rw [List.take_length] at m6
        refine ⟨_, rfl, .inl ⟨rfl, _, SqL.of m1⟩, _, rfl, r_nil ⟨lt, _, rfl, .inl ⟨SqL.of m5, fun b fb => r_nil ?_⟩⟩⟩
        have gb : Go [] H4 (upd H4 b (.tup (os.map V.str))) := Go.new fb
        have hb : SqT c.K (upd H4 b (.tup (os.map V.str))) b (os.map V.str) := SqT.of upd_same
        have t4 := gb.old t _ (fun z => nomatch z) m1
        have hp5 := hp4.go gb
        generalize (upd H4 b (.tup (os.map V.str))) = H5 at gb hb t4 hp5 ⊢
        refine ⟨t, as.map V.ref, .ref b, rfl, rfl, t4, by rw [List.length_map, sizeLine_eq]; omega, ?_⟩
        have gp : Go [t] H5 (upd H5 t (.lst (as.map V.ref ++ [.ref b]))) := Go.put t4 rfl (List.Mem.head _)
        have ft0 : H t = none := ft
        refine ⟨(g5.trans gb.wide).mut ft0, ?_, as ++ [b], ws ++ [os], _, _, _, ?_, ?_, by simp [k3], ?_, rfl⟩
        · obtain ⟨x1, x2, x3, x4, x5⟩ := hp5
          exact ⟨x1, x2, x3, by rw [upd_ne ntp.symm]; exact x4, by omega⟩
        · rw [List.map_append]
          exact upd_same
        · refine ((m4.go gb).go gp).app ⟨rfl, fun j x r e1 e2 => ?_⟩
          cases j with
          | zero =>
            have e1' : b = x := by simpa using e1
            have e2' : os = r := by simpa using e2
            subst e1' e2'
            exact gp.sqT hb
          | succ j => simp at e1
        · intro fs hf
          rcases List.mem_append.mp hf with z | z
          · exact k4 fs z
          · rw [List.mem_singleton.mp z]
            exact m6
    · rintro σ H2 ⟨g2, hp2, as, ws, z3, z4, z5, k1, k2, k3, k4, rfl⟩
      rw [hcl] at hp2 k3
      refine ⟨_, rfl, r_nil ⟨t, _, rfl, .inl ⟨SqL.of k1, fun b fb => ?_⟩⟩⟩
      have gb : Go [] H2 (upd H2 b (.tup (as.map V.ref))) := Go.new fb
      exact q _ b ws (g2.trans gb.wide) ((hp2.go gb).up (by omega)) ⟨as, SqT.of upd_same, k2.1, fun j a fs e1 e2 => gb.sqT (k2.2 j a fs e1 e2)⟩ (by rw [← k2.1, k3]) k4
end
end Sd

/-! L11a: coarser watches -/
namespace Sd
open PySem PySem.Spec PyProof.Rows L2 RZ RT
def rowIn (ws1 ws2 : List (List Str)) (i : Nat) : List Bool := (ws1.getD i []).map fun g => decide (g ∈ ws2.getD i [])
def flatS (ws1 ws2 : List (List Str)) : Nat → List Bool
  | 0 => []
  | i + 1 => flatS ws1 ws2 i ++ rowIn ws1 ws2 i
def coarseS (ws1 ws2 : List (List Str)) : Bool := ((List.range ws1.length).map fun i => (rowIn ws1 ws2 i).all id).all id
theorem flat_all (ws1 ws2 : List (List Str)) : ∀ n, (flatS ws1 ws2 n).all id = ((List.range n).map fun i => (rowIn ws1 ws2 i).all id).all id
  | 0 => rfl
  | n + 1 => by
    unfold flatS
    rw [List.all_append, flat_all ws1 ws2 n, List.range_succ, List.map_append, List.all_append]
    simp
theorem coarse_of {ws1 ws2 : List (List Str)} (h : ∀ i, ∀ g ∈ ws1.getD i [], g ∈ ws2.getD i []) : coarseS ws1 ws2 = true := by
  unfold coarseS rowIn
  rw [List.all_map]
  refine List.all_eq_true.mpr fun i _ => ?_
  show List.all _ _ = true
  rw [List.all_map]
  exact List.all_eq_true.mpr fun g hg => decide_eq_true (h i g hg)
def spCoarse (c : Wd) (C : Addr) : Sp := fun vs H Q _ => ∃ (o a b : Addr) (m : Mac) (cs : List (List Nat)) (ws1 ws2 : List (List Str)), vs = [.ref o, .ref a, .ref b] ∧ MacAt c.K C H o m cs ∧ macB m = true ∧ WatAt c.K H a ws1 ∧ watchB m ws1 = true ∧ WatAt c.K H b ws2 ∧ watchB m ws2 = true ∧
  ∀ H', Go [] H H' → Q (.bl (coarseS ws1 ws2)) H'
def spLLess (c : Wd) : Sp := fun vs H Q _ => ∃ (a b : Addr) (ws1 ws2 : List (List Str)), vs = [.ref a, .ref b] ∧ WatAt c.K H a ws1 ∧ WatAt c.K H b ws2 ∧ ws1.length = ws2.length ∧ ws1.length ≤ 1000 ∧ (∀ fs ∈ ws1, fs.length ≤ 1000) ∧
  ∀ H', Go [] H H' → Q (.bl (coarseS ws1 ws2)) H'
theorem row_at {ws : List (List Str)} {i : Nat} (h : i < ws.length) : ws[i]? = some (ws.getD i []) := by
  rw [List.getD_eq_getElem?_getD, List.getElem?_eq_getElem h]
  rfl
section
variable {c : Wd} {C : Addr}
abbrev s_coarser : Stmt := topS 31
abbrev N_coarser : List Str := ["machine", "one", "other", "page", "fewer", "more"]
abbrev P_coarser : List Str := ["machine", "one", "other"]
theorem sc_coarser : FnScope N_coarser P_coarser (defScope s_coarser) := ⟨rfl, rfl, rfl, by decide +kernel, rfl, by decide +kernel, by decide +kernel⟩
theorem ok_coarser (F : At c "coarser" "coarser" s_coarser P_coarser) (B : Bi c) (D_check_watch : Ok c "check_watch" 5 P_check_watch (spIsWatch c C .non)) : Ok c "coarser" 6 P_coarser (spCoarse c C) := by
  refine Ok.of F sc_coarser (fun vs H Q E h => ?_) (fun f cdv A out s H vs Q E hr h => ?_)
  · obtain ⟨o, a, b, m, cs, ws1, ws2, rfl, _⟩ := h
    rfl
  · obtain ⟨o, a, b, m, cs, ws1, ws2, rfl, hM, hB, hW1, hwB1, hW2, hwB2, q⟩ := h
    have hu1 := hu_of hr
    have hu5 := hr.u5
    have cl3 : m.clock.length ≤ 3 := by
      simp only [macB, clockB, Bool.and_eq_true, decide_eq_true_eq] at hB
      exact hB.2.1.2.1
    have hwB1' := hwB1
    have hwB2' := hwB2
    simp only [watchB, Bool.and_eq_true, decide_eq_true_eq, List.all_eq_true] at hwB1' hwB2'
    obtain ⟨l1, k1⟩ := hwB1'
    obtain ⟨l2, k2⟩ := hwB2'
    obtain ⟨as, v1, v2, v3⟩ := hW1.ex
    obtain ⟨bs, u1, u2, u3⟩ := hW2.ex
    have rfew : ∀ i, i < ws1.length → (ws1.getD i []).length ≤ 1000 := fun i hi => by
      have := k1 _ (List.mem_of_getElem? (row_at hi))
      simp only [watB, Bool.and_eq_true, decide_eq_true_eq] at this
      exact this.2.1
    refine ⟨_, (pss_cons (ps_expr (pe_f D_check_watch (hr.mono (by decide)) (by rfl) (pa_cons (pv 0) (pa_cons (pv 1) pa_nil))))
    (pss_cons (ps_expr (pe_f D_check_watch (hr.mono (by decide)) (by rfl) (pa_cons (pv 0) (pa_cons (pv 2) pa_nil))))
    (pss_one (ps_ret (pe_callB (call_allU (K := c.K) rfl) (by rfl) B.all (by decide +kernel) (pa_cons (pe_lc2 (own := [("fewer", 4), ("more", 5), ("page", 3)]) (vs1 := [3]) rfl sc_coarser.nd (pi_zipU (K := c.K) (by rfl) B.zip (pa_cons (pv 1) (pa_cons (pv 2) pa_nil))) (blkOk_by (N := N_coarser) (sc := defScope s_coarser) (by decide +kernel)) (by decide) (fun _ _ _ _ _ => (pg_tupU (K := c.K) (n := 2) rfl (pgs_cons (pg_name (i := 4) sc_coarser.nd rfl (by first | exact Or.inl rfl | exact Or.inr rfl)) (pgs_cons (pg_name (i := 5) sc_coarser.nd rfl (by first | exact Or.inl rfl | exact Or.inr rfl)) pgs_nil)))) (fun _ _ _ _ _ => pts_nil) (fun _ _ _ _ _ => (pi_seq (K := c.K) (pv 4))) (fun _ _ _ _ _ => (pg_name (i := 3) sc_coarser.nd rfl (by first | exact Or.inl rfl | exact Or.inr rfl))) (fun _ _ _ _ _ => pts_nil) (fun _ _ _ _ _ => (pe_cmpR (op_inU (K := c.K) hu5) (pv 3) (pv 5) (by rfl)))) pa_nil)))))), ?_⟩
    refine ⟨_, rfl, _, rfl, o, a, m, cs, ws1, rfl, hM, hB, hW1, hwB1, fun H1 g1 => ⟨_, rfl, _, rfl, o, b, m, cs, ws2, rfl, hM.go g1, hB, hW2.go g1, hwB2, fun H2 g2 => ?_⟩⟩
    have g02 := g1.trans g2
    refine ⟨_, rfl, _, rfl, a, b, _, _, rfl, .inr ⟨g02.sqT v1, g02.sqT u1, fun D hD => ?_⟩⟩
    refine lc2_map (walk_zipT (n := ws1.length) (by rw [List.length_map, List.length_map, v2, u2, l1, l2, Nat.min_self])) (fun i j ys _ => ys = (flatS ws1 ws2 i ++ (rowIn ws1 ws2 i).take j).map V.bl ∧ i ≤ ws1.length ∧ (j ≤ 1000 ∧ ys.length ≤ i * 1000 + j))
      yk_pair hD (fun H' g => ⟨g.sqT (g02.sqT v1), g.sqT (g02.sqT u1)⟩) ?_ ?_ ?_ ?_ ?_
    · exact ⟨rfl, Nat.zero_le _, Nat.zero_le _, Nat.le_refl _⟩
    · exact fun _ _ _ _ _ _ _ h => h
    · rintro i j ys H' ⟨_, h, h', h''⟩
      omega
    · rintro i y H4 H5 ys Fin hi g4 ⟨p1, p2, p3, p4⟩ ⟨T, x1, x2, rfl, hT, rfl, hx, hy⟩ gy dD fin
      have hx := hx
      have hy := hy
      dsimp only at hx hy
      rw [List.getElem?_map] at hx hy
      obtain ⟨aa, e1, rfl⟩ := Option.map_eq_some_iff.mp hx
      obtain ⟨ab, e2, rfl⟩ := Option.map_eq_some_iff.mp hy
      have r1 := v3 i aa _ e1 (row_at hi)
      have r2 := u3 i ab _ e2 (row_at (by omega))
      have g05 := g02.trans (g4.trans gy)
      refine ⟨T, _, rfl, SqT.of upd_same, rfl, _, _, rfl, _, _, rfl, ?_⟩
      refine ⟨rfl, rfl, ?_⟩
      refine .inl (.inr ⟨_, rfl, aa, rfl, ⟨_, g05.sqT r1⟩, fin _ _ _ ?_⟩)
      have rl : ((ws1.getD i []).map V.str).length = (ws1.getD i []).length := by simp
      have rw1 := rfew i hi
      refine ⟨_, _, _, walk_tup (xs := (ws1.getD i []).map V.str), yk_at, g4.trans gy, dD, ⟨p1, p2, p3, p4⟩, fun H6 g => g.sqT (g05.sqT r1), ?_, ?_⟩
      · rintro zs H6 ⟨s1, s2, s3, s4⟩
        rw [rl] at s1 s3 s4
        refine ⟨?_, by omega, by omega, by omega⟩
        rw [s1]
        show List.map V.bl (_ ++ _) = List.map V.bl ((flatS ws1 ws2 i ++ rowIn ws1 ws2 i) ++ List.take 0 _)
        rw [List.take_zero, List.append_nil, List.take_of_length_le (by unfold rowIn; rw [List.length_map]; exact Nat.le_refl _)]
      · rintro j z H6 H7 zs Fin2 hj g6 g46 ⟨s1, s2, s3, s4⟩ ⟨rfl, hz⟩ fin2
        obtain ⟨g, hg⟩ : ∃ g, (ws1.getD i [])[j]? = some g := ⟨_, List.getElem?_eq_getElem (by omega)⟩
        have ez : z = .str g := by
          rw [List.getElem?_map, hg] at hz
          exact (Option.some.inj hz).symm
        subst ez
        have h26 : SqT c.K H7 ab ((ws2.getD i []).map V.str) := (g02.trans g6).sqT r2
        refine ⟨rfl, _, rfl, _, rfl, r_inT h26 rfl (flat_strs _) ?_⟩
        rw [inV_strs]
        refine fin2 _ _ (Go.refl _ _) ⟨?_, s2, by omega, by simp; omega⟩
        rw [s1]
        have et : (rowIn ws1 ws2 i).take (j + 1) = (rowIn ws1 ws2 i).take j ++ [decide (g ∈ ws2.getD i [])] := by
          rw [List.take_add_one]
          unfold rowIn
          rw [List.getElem?_map, hg]
          rfl
        rw [et]
        simp
    · rintro H4 ys g4 ⟨p1, _⟩ hD4
      rw [List.take_zero, List.append_nil] at p1
      subst p1
      refine r_nil (r_all (SqL.of hD4) ?_)
      rw [flat_all]
      exact q H4 (g02.trans g4)
abbrev s__law_is_less : Stmt := topS 63
abbrev N__law_is_less : List Str := ["_law_one", "_law_other", "_law_some", "_law_more", "_law_page"]
abbrev P__law_is_less : List Str := ["_law_one", "_law_other"]
theorem sc__law_is_less : FnScope N__law_is_less P__law_is_less (defScope s__law_is_less) := ⟨rfl, rfl, rfl, by decide +kernel, rfl, by decide +kernel, by decide +kernel⟩
theorem ok_lless (F : At c "_law_is_less" "_law_is_less" s__law_is_less P__law_is_less) (B : Bi c) : Ok c "_law_is_less" 1 P__law_is_less (spLLess c) := by
  refine Ok.of F sc__law_is_less (fun vs H Q E h => ?_) (fun f cdv A out s H vs Q E hr h => ?_)
  · obtain ⟨a, b, ws1, ws2, rfl, _⟩ := h
    rfl
  · obtain ⟨a, b, ws1, ws2, rfl, hW1, hW2, hl, hfew, rfew, q⟩ := h
    have hu1 := hu_of hr
    have hu5 := hr.u5
    obtain ⟨as, v1, v2, v3⟩ := hW1.ex
    obtain ⟨bs, u1, u2, u3⟩ := hW2.ex
    refine ⟨_, (pss_one (ps_ret (pe_callB (call_allU (K := c.K) rfl) (by rfl) B.all (by decide +kernel) (pa_cons (pe_lc (own := [("_law_some", 2), ("_law_more", 3)]) rfl sc__law_is_less.nd (pi_zipU (K := c.K) (by rfl) B.zip (pa_cons (pv 0) (pa_cons (pv 1) pa_nil))) (blkOk_by (N := N__law_is_less) (sc := defScope s__law_is_less) (by decide +kernel)) (fun _ _ _ _ _ => (pg_tupU (K := c.K) (n := 2) rfl (pgs_cons (pg_name (i := 2) sc__law_is_less.nd rfl (by first | exact Or.inl rfl | exact Or.inr rfl)) (pgs_cons (pg_name (i := 3) sc__law_is_less.nd rfl (by first | exact Or.inl rfl | exact Or.inr rfl)) pgs_nil)))) (fun _ _ _ _ _ => pts_nil) (fun _ _ _ _ _ => (pe_callB (call_allU (K := c.K) rfl) (by rfl) B.all (by decide +kernel) (pa_cons (pe_lc (own := [("_law_page", 4)]) rfl sc__law_is_less.nd (pi_seq (K := c.K) (pv 2)) (blkOk_by (by kernel_rfl)) (fun _ _ _ _ _ => (pg_name (i := 4) sc__law_is_less.nd rfl (by first | exact Or.inl rfl | exact Or.inr rfl))) (fun _ _ _ _ _ => pts_nil) (fun _ _ _ _ _ => (pe_cmpR (op_inU (K := c.K) hu5) (pv 4) (pv 3) (by rfl)))) pa_nil)))) pa_nil)))), ?_⟩
    refine ⟨_, rfl, _, rfl, a, b, _, _, rfl, .inr ⟨v1, u1, fun D hD => ?_⟩⟩
    refine lc_map (walk_zipT (n := ws1.length) (by rw [List.length_map, List.length_map, v2, u2, hl, Nat.min_self])) [] (fun _ _ => True) (fun i y _ => y = .bl ((rowIn ws1 ws2 i).all id)) yk_pair
      (by omega) hD (fun _ h => nomatch h) (fun H' g => ⟨g.sqT v1, g.sqT u1⟩) trivial (fun _ _ _ _ _ => trivial) (fun _ _ _ _ _ _ h => h) ?_ ?_
    · rintro i y H2 H3 Fin hi g2 g3 _ ⟨T, x1, x2, rfl, hT, rfl, hx, hy⟩ fin
      have hx := hx
      have hy := hy
      dsimp only at hx hy
      rw [List.getElem?_map] at hx hy
      obtain ⟨aa, e1, rfl⟩ := Option.map_eq_some_iff.mp hx
      obtain ⟨ab, e2, rfl⟩ := Option.map_eq_some_iff.mp hy
      have r1 := v3 i aa _ e1 (row_at hi)
      have r2 := u3 i ab _ e2 (row_at (by omega))
      have g03 := g2.trans g3
      have rw1 := rfew _ (List.mem_of_getElem? (row_at hi))
      have rl : ((ws1.getD i []).map V.str).length = (ws1.getD i []).length := by simp
      refine ⟨T, _, rfl, SqT.of upd_same, rfl, _, _, rfl, _, _, rfl, ?_⟩
      refine ⟨rfl, rfl, .inl (.inr ⟨_, rfl, aa, rfl, ⟨_, g03.sqT r1⟩, fun D2 hD2 => ?_⟩)⟩
      refine lc_map (walk_tup (xs := (ws1.getD i []).map V.str)) [] (fun _ _ => True) (fun j y _ => ∃ g : Str, (ws1.getD i [])[j]? = some g ∧ y = .bl (decide (g ∈ ws2.getD i []))) yk_at
        (by omega) hD2 (fun _ h => nomatch h) (fun H' g => g.sqT (g03.sqT r1)) trivial (fun _ _ _ _ _ => trivial) (fun _ _ _ _ _ _ h => h) ?_ ?_
      · rintro j z H4 H5 Fin2 hj g4 g5 _ ⟨rfl, hz⟩ fin2
        obtain ⟨g, hg⟩ : ∃ g, (ws1.getD i [])[j]? = some g := ⟨_, List.getElem?_eq_getElem (by omega)⟩
        have ez : z = .str g := by
          rw [List.getElem?_map, hg] at hz
          exact (Option.some.inj hz).symm
        subst ez
        refine ⟨rfl, _, rfl, _, rfl, r_inT (g4.sqT (g03.sqT r2)) rfl (flat_strs _) ?_⟩
        rw [inV_strs]
        exact fin2 _ _ (Go.refl _ _) trivial ⟨g, hg, rfl⟩
      · intro H4 ys g4 _ hD4 hl4 hr4
        have ey : ys = (rowIn ws1 ws2 i).map V.bl := by
          unfold rowIn
          rw [List.map_map]
          exact list_of (by omega) fun i y e => by obtain ⟨s, h, h'⟩ := hr4 i y e; exact ⟨s, h, h'⟩
        subst ey
        exact r_nil (r_all (SqL.of hD4) (fin _ _ (g3.trans g4) trivial rfl))
    · intro H2 ys g2 _ hD2 hl2 hr2
      have ey : ys = ((List.range ws1.length).map fun i => (rowIn ws1 ws2 i).all id).map V.bl := by
        rw [List.map_map]
        exact list_of_fn hl2 hr2
      subst ey
      exact r_nil (r_all (SqL.of hD2) (q H2 g2))
end
end Sd

/-! L11b: what is left unseen -/
namespace Sd
open PySem PySem.Spec PyProof.Rows L2 RZ RT
def leftB (m : Mac) (ws : List (List Str)) (ss : List Stp) (g : Str) (k : Nat) : Bool := decide (some g ∈ (ss.drop (sinceS m ws g k)).map Stp.page)
def leftS (m : Mac) (ws : List (List Str)) (ss : List Stp) (k : Nat) : List Str := m.pages.filter fun g => leftB m ws ss g k
theorem filt_filt {xs : List Str} {p q : Str → Bool} : (xs.filter p).filter q = xs.filter fun x => p x && q x := by
  rw [List.filter_filter]
  refine congrArg (fun f => List.filter f xs) (funext fun x => Bool.and_comm _ _)
theorem seen_filt (m : Mac) (ws : List (List Str)) (ss : List Stp) : ∀ i, ∃ p, (seenS m ws ss i).2 = m.pages.filter p
  | 0 => ⟨fun _ => false, by
    show [] = _
    rw [List.filter_eq_nil_iff.mpr]
    intro a _ h
    cases h⟩
  | i + 1 => by
    unfold seenS
    split
    · exact ⟨_, filt_filt⟩
    · exact ⟨_, rfl⟩
theorem filt_same {xs : List Str} {p q : Str → Bool} (h : ∀ x, x ∈ xs.filter p ↔ x ∈ xs ∧ q x = true) : xs.filter p = xs.filter q := by
  refine List.filter_congr fun x hx => ?_
  have := h x
  rw [List.mem_filter] at this
  cases hp : p x <;> cases hq : q x
  · rfl
  · exact absurd (this.mpr ⟨hx, hq⟩).2 (by rw [hp]; decide)
  · exact absurd (this.mp ⟨hx, hp⟩).2 (by rw [hq]; decide)
  · rfl
theorem left_full {m : Mac} {ws : List (List Str)} {ss : List Stp} {n k : Nat} (hB : macB m = true) (hw : watchB m ws = true) (hn : turnsIn m ss n) (hk : fullIn m ss k) : (seenS m ws ss n).2 = leftS m ws ss k := by
  have estep : ∀ j, stF m.clock (j + 1) = stF m.clock j + m.clock.getD (j % m.clock.length) 0 := fun j => rfl
  obtain ⟨k1, k2⟩ := hk
  obtain ⟨p, hp⟩ := seen_filt m ws ss n
  rw [hp]
  refine filt_same fun x => ?_
  rw [← hp]
  have all : ∀ b, ss.length ≤ b → segS ss (sinceS m ws x k) b = ss.drop (sinceS m ws x k) := fun b hb => by
    unfold segS
    rw [List.take_of_length_le hb]
  by_cases e : ss.length = stF m.clock k
  · have ht : turnsIn m ss k := by
      refine ⟨by omega, ?_⟩
      cases k with
      | zero => exact .inl rfl
      | succ j =>
        refine .inr ?_
        have := (clk hB j).2.1
        have := estep j
        show stF m.clock j < _
        omega
    rw [turns_one hn ht, (seen_due hw k1).2 x, all _ (by omega)]
    unfold leftB
    rw [decide_eq_true_eq]
  · have ht : turnsIn m ss (k + 1) := ⟨by omega, .inr (by show stF m.clock k < _; omega)⟩
    rw [turns_one hn ht]
    have hne : ¬ (tS m.clock ss k).length = m.clock.getD (k % m.clock.length) 0 := by
      unfold tS
      rw [List.length_take, List.length_drop]
      have := estep k
      omega
    have es : (seenS m ws ss (k + 1)).2 = withS m (seenS m ws ss k).2 (tS m.clock ss k) := by
      conv => lhs; unfold seenS
      rw [if_neg hne]
    rw [es, mem_with, (seen_due hw k1).2 x]
    have ej := seg_join (ss := ss) (since_le m ws x k) k1
    rw [all (stF m.clock (k + 1)) (by omega)] at ej
    unfold leftB
    rw [decide_eq_true_eq, ← ej, List.map_append, List.mem_append]
    constructor
    · rintro ⟨a, b | b⟩
      · exact ⟨a, .inl b.2⟩
      · exact ⟨a, .inr b⟩
    · rintro ⟨a, b | b⟩
      · exact ⟨a, .inl ⟨a, b⟩⟩
      · exact ⟨a, .inr b⟩
/-- watching fewer leaves more -/
theorem since_fewer {m : Mac} {ws ws' : List (List Str)} (h : ∀ i, ∀ g ∈ ws'.getD i [], g ∈ ws.getD i []) (g : Str) : ∀ i, sinceS m ws' g i ≤ sinceS m ws g i
  | 0 => Nat.le_refl _
  | i + 1 => by
    unfold sinceS
    by_cases a : g ∈ ws'.getD (i % m.clock.length) []
    · rw [if_pos a, if_pos (h _ g a)]
      exact Nat.le_refl _
    · rw [if_neg a]
      split
      · exact Nat.le_trans (since_le m ws' g i) (stF_mono m.clock (Nat.le_succ i))
      · exact since_fewer h g i
theorem left_fewer {m : Mac} {ws ws' : List (List Str)} {ss : List Stp} {k : Nat} (h : ∀ i, ∀ g ∈ ws'.getD i [], g ∈ ws.getD i []) : ∀ g ∈ leftS m ws ss k, g ∈ leftS m ws' ss k := fun g hg => by
  unfold leftS at hg ⊢
  rw [List.mem_filter] at hg ⊢
  refine ⟨hg.1, ?_⟩
  have h1 := hg.2
  unfold leftB at h1 ⊢
  rw [decide_eq_true_eq] at h1 ⊢
  obtain ⟨s, hs, e⟩ := List.mem_map.mp h1
  refine List.mem_map.mpr ⟨s, ?_, e⟩
  have := since_fewer (m := m) h g k
  obtain ⟨d, hd⟩ : ∃ d, sinceS m ws g k = sinceS m ws' g k + d := ⟨_, (Nat.add_sub_cancel' this).symm⟩
  rw [hd, ← List.drop_drop] at hs
  exact List.mem_of_mem_drop hs
def spLLeft (c : Wd) : Sp := fun vs H Q _ => ∃ (d w r : Addr) (g : Str) (m : Mac) (ws : List (List Str)) (ss : List Stp), vs = [.ref d, .ref w, .ref r, .str g] ∧ LoreAt c.K H d m ∧ DrawnM m ∧ WatAt c.K H w ws ∧ ws.length = m.clock.length ∧
  SqT c.K H r ((ss.map Stp.name).map V.str) ∧ ss.length ≤ 1000 ∧ (∀ s ∈ ss, ∃ i : Nat, m.steps[i]? = some s) ∧
  ∀ H' k, Go [] H H' → fullIn m ss k → Q (.bl (leftB m ws ss g k)) H'
def spLFewer (c : Wd) : Sp := fun vs H Q _ => ∃ (p w : Addr) (n : Nat) (ws : List (List Str)), vs = [.ref p, .ref w] ∧ Pot H p n ∧ n ≤ 2 ^ 28 ∧ WatAt c.K H w ws ∧ ws.length ≤ 3 ∧ (∀ fs ∈ ws, fs.length ≤ 4) ∧
  ∀ H' w' ws', Go [p] H H' → Pot H' p (n + 12) → WatAt c.K H' w' ws' → ws'.length = ws.length → (∀ (i : Nat) fs', ws'[i]? = some fs' → fs'.Sublist (ws.getD i [])) → Q (.ref w') H'
section
variable {c : Wd}
abbrev s__law_is_left : Stmt := topS 62
abbrev N__law_is_left : List Str := ["_law_lore_here", "_law_watch", "_law_run", "_law_page", "_law_since", "_law_end", "_law_turn"]
abbrev P__law_is_left : List Str := ["_law_lore_here", "_law_watch", "_law_run", "_law_page"]
theorem sc__law_is_left : FnScope N__law_is_left P__law_is_left (defScope s__law_is_left) := ⟨rfl, rfl, rfl, by decide +kernel, rfl, by decide +kernel, by decide +kernel⟩
theorem ok_lleft (F : At c "_law_is_left" "_law_is_left" s__law_is_left P__law_is_left) (B : Bi c) (D__law_ticks : Ok c "_law_ticks" 1 P__law_ticks (spLTicks c)) (D__law_touched : Ok c "_law_touched" 2 P__law_touched (spLTouched c)) : Ok c "_law_is_left" 3 P__law_is_left (spLLeft c) := by
  refine Ok.of F sc__law_is_left (fun vs H Q E h => ?_) (fun f cdv A out s H vs Q E hr h => ?_)
  · obtain ⟨d, w, r, g, m, ws, ss, rfl, _⟩ := h
    rfl
  · obtain ⟨d, w, r, g, m, ws, ss, rfl, hL, hD, hW, hwl, hs, hfew, hss, q⟩ := h
    have hu1 := hu_of hr
    have hu := hr.units
    have hu5 := hr.u5
    have hB := drawn_right hD
    obtain ⟨as, w1, w2, w3⟩ := hW.ex
    have hlen : ((ss.map Stp.name).map V.str).length = ss.length := by simp
    have hwL : (as.map V.ref).length = m.clock.length := by rw [List.length_map, w2, hwl]
    refine ⟨_, (pss_cons (ps_asg (pe_tup (pa_cons pe_int (pa_cons pe_int (pa_cons pe_int pa_nil)))) (pg_tupU (K := c.K) (n := 3) rfl (pgs_cons (pg_name (i := 4) sc__law_is_left.nd rfl (by first | exact Or.inl rfl | exact Or.inr rfl)) (pgs_cons (pg_name (i := 5) sc__law_is_left.nd rfl (by first | exact Or.inl rfl | exact Or.inr rfl)) (pgs_cons (pg_name (i := 6) sc__law_is_left.nd rfl (by first | exact Or.inl rfl | exact Or.inr rfl)) pgs_nil)))))
    (pss_cons (ps_while PassesOwn.never (pt_cmpR op_le (pe_op (op_addU (K := c.K)) (pv 5) (pe_f D__law_ticks (hr.mono (by decide)) (by rfl) (pa_cons (pv 0) (pa_cons (pv 6) pa_nil)))) (pe_callB (call_lenU (K := c.K)) (by rfl) B.len (by decide +kernel) (pa_cons (pv 2) pa_nil)) (nomark _)) (pss_cons (ps_set (i := 5) sc__law_is_left.nd rfl (by first | exact Or.inl rfl | exact Or.inr rfl) (pe_op (op_addU (K := c.K)) (pv 5) (pe_f D__law_ticks (hr.mono (by decide)) (by rfl) (pa_cons (pv 0) (pa_cons (pv 6) pa_nil)))))
    (pss_cons (ps_set (i := 4) sc__law_is_left.nd rfl (by first | exact Or.inl rfl | exact Or.inr rfl) (pe_ifExp (pt_cmpR (op_inU (K := c.K) hu5) (pv 3) (pe_ixU (K := c.K) hu1 (pv 1) (pe_op op_modU (pe_callTy call_intU (by rfl) B.int (by decide +kernel) (pa_cons (pv 6) pa_nil)) (pe_callB (call_lenU (K := c.K)) (by rfl) B.len (by decide +kernel) (pa_cons (pv 1) pa_nil))) (fun _ _ => rfl) (fun _ _ => rfl)) (by rfl)) (pv 5) (pv 4)))
    (pss_one (ps_set (i := 6) sc__law_is_left.nd rfl (by first | exact Or.inl rfl | exact Or.inr rfl) (pe_op (op_addU (K := c.K)) (pv 6) pe_int))))))
    (pss_one (ps_ret (pe_cmpR (op_inU (K := c.K) hu5) (pv 3) (pe_f D__law_touched (hr.mono (by decide)) (by rfl) (pa_cons (pv 0) (pa_cons (pe_slice (sl_U (K := c.K)) (pv 2) (po_some (pv 4)) po_none) pa_nil))) (by rfl)))))), ?_⟩
    refine ⟨by show 3 ≤ sizeLine; decide, fun T fT => ?_⟩
    have g1 : Go [] H (upd H T (.tup [.int 0, .int 0, .int 0])) := Go.new fT
    refine ⟨T, _, rfl, SqT.of upd_same, rfl, ?_⟩
    refine ⟨_, _, rfl, _, _, rfl, _, _, rfl, rfl, ?_⟩
    generalize (upd H T (.tup [.int 0, .int 0, .int 0])) = H2 at g1 ⊢
    refine ⟨fun k σ H' => ∃ i : Nat, k = ss.length - stF m.clock i ∧ stF m.clock i ≤ ss.length ∧ Go [] H H' ∧
      σ = [some (.ref d), some (.ref w), some (.ref r), some (.str g), some (.int ((sinceS m ws g i : Nat) : Int)), some (.int ((stF m.clock i : Nat) : Int)), some (.int (i : Int))], ?_, ?_⟩
    · exact ⟨_, 0, rfl, Nat.zero_le _, g1, rfl⟩
    rintro k σ H3 ⟨i, rfl, hi, g3, rfl⟩
    have hc := clk hB i
    have hstep : stF m.clock (i + 1) = stF m.clock i + m.clock.getD (i % m.clock.length) 0 := rfl
    have ec : ((stF m.clock i : Nat) : Int) + ((m.clock.getD (i % m.clock.length) 0 : Nat) : Int) = ((stF m.clock (i + 1) : Nat) : Int) := by
      rw [hstep]
      exact (Int.natCast_add _ _).symm
    have hL3 := hL.go g3 (by simp)
    refine ⟨_, rfl, _, rfl, _, rfl, d, m, i, rfl, hL3, hD, fun H4 g4 => r_addI ?_⟩
    rw [ec]
    refine ⟨_, rfl, r_nil (r_lenT ((g3.trans g4).sqT hs) ⟨_, _, rfl, rfl, _, rfl, ?_⟩)⟩
    rw [hlen]
    by_cases hlt : stF m.clock (i + 1) ≤ ss.length
    · refine (if_pos (decide_eq_true (by omega))).mpr ⟨fun σ' H' => Go [] H H' ∧
        σ' = [some (.ref d), some (.ref w), some (.ref r), some (.str g), some (.int ((sinceS m ws g (i + 1) : Nat) : Int)), some (.int ((stF m.clock (i + 1) : Nat) : Int)), some (.int ((i + 1 : Nat) : Int))],
        fun σ' H' h' => ⟨ss.length - stF m.clock (i + 1), by omega, i + 1, rfl, hlt, h'⟩, ?_⟩
      refine ⟨_, rfl, _, rfl, _, rfl, d, m, i, rfl, hL3.go g4 (by simp), hD, fun H5 g5 => r_addI ?_⟩
      rw [ec]
      have g05 := (g3.trans g4).trans g5
      obtain ⟨aa, haa⟩ : ∃ x, as[i % m.clock.length]? = some x := ⟨_, List.getElem?_eq_getElem (by have := hc.1; omega)⟩
      have hwi : ws[i % m.clock.length]? = some (ws.getD (i % m.clock.length) []) := row_at (by have := hc.1; omega)
      have har : (as.map V.ref)[i % m.clock.length]? = some (.ref aa) := by rw [List.getElem?_map, haa]; rfl
      have w4 := w3 _ aa _ haa hwi
      refine ⟨_, rfl, .inl ⟨_, rfl, _, rfl, .inl ⟨_, rfl, _, rfl, r_nil (r_lenT (g05.sqT w1) ?_)⟩⟩⟩
      rw [hwL]
      refine r_mod (by omega) fun z z0 z1 ez => ?_
      have hz : z = ((i % m.clock.length : Nat) : Int) := by
        rw [ez, Int.natCast_emod]
      subst hz
      refine ixT (i := i % m.clock.length) (g05.sqT w1) har (r_inT (g05.sqT w4) rfl (flat_strs _) ?_)
      rw [inV_strs]
      refine ⟨_, rfl, ?_⟩
      by_cases hw : g ∈ ws.getD (i % m.clock.length) []
      · have es : sinceS m ws g (i + 1) = stF m.clock (i + 1) := by
          conv => lhs; unfold sinceS
          rw [if_pos hw]
        refine (if_pos (decide_eq_true hw)).mpr ⟨_, rfl, _, rfl, r_addI ⟨g05, ?_⟩⟩
        rw [es]
        rfl
      · have es : sinceS m ws g (i + 1) = sinceS m ws g i := by
          conv => lhs; unfold sinceS
          rw [if_neg hw]
        refine (if_neg (by rw [decide_eq_false hw]; simp)).mpr ⟨_, rfl, _, rfl, r_addI ⟨g05, ?_⟩⟩
        rw [es]
        rfl
    · refine (if_neg (by rw [decide_eq_false (by omega)]; simp)).mpr ?_
      have g04 := g3.trans g4
      refine ⟨_, rfl, _, rfl, _, rfl, _, rfl, _, rfl, r_slT (g04.sqT hs) fun b H6 g6 hb => r_nil ?_⟩
      have ecut : cutV ((ss.map Stp.name).map V.str) (some ((sinceS m ws g i : Nat) : Int)) none = ((ss.drop (sinceS m ws g i)).map Stp.name).map V.str := by
        rw [cut_from]
        simp only [List.map_drop]
      rw [ecut] at hb
      refine ⟨d, b, m, ss.drop (sinceS m ws g i), rfl, hL.go (g04.trans g6) (by simp), hD, hb, by rw [List.length_drop]; omega, fun s hs' => hss s (List.mem_of_mem_drop hs'), fun H7 l fl g7 hl => r_inL (SqL.of hl) rfl (flat_strs _) ?_⟩
      rw [inV_strs, in_touched]
      exact q H7 i (g04.trans (g6.trans g7)) ⟨hi, by omega⟩
abbrev s__law_fewer : Stmt := topS 61
abbrev N__law_fewer : List Str := ["_law_pot", "_law_watch", "_law_found", "_law_some", "_law_own", "_law_page"]
abbrev P__law_fewer : List Str := ["_law_pot", "_law_watch"]
theorem sc__law_fewer : FnScope N__law_fewer P__law_fewer (defScope s__law_fewer) := ⟨rfl, rfl, rfl, by decide +kernel, rfl, by decide +kernel, by decide +kernel⟩
theorem ok_lfewer (F : At c "_law_fewer" "_law_fewer" s__law_fewer P__law_fewer) (B : Bi c) (D__law_take : Ok c "_law_take" 1 P__law_take spTake) : Ok c "_law_fewer" 2 P__law_fewer (spLFewer c) := by
  refine Ok.of F sc__law_fewer (fun vs H Q E h => ?_) (fun f cdv A out s H vs Q E hr h => ?_)
  · obtain ⟨p, w, n, ws, rfl, _⟩ := h
    rfl
  · obtain ⟨p, w, n, ws, rfl, hp, hn, hW, wl3, f4, q⟩ := h
    have hu1 := hu_of hr
    have hu := hr.units
    obtain ⟨bs, v1, v2, v3⟩ := hW.ex
    have hbl : (bs.map V.ref).length = ws.length := by rw [List.length_map, v2]
    refine ⟨_, (pss_cons (ps_set (i := 2) sc__law_fewer.nd rfl (by first | exact Or.inl rfl | exact Or.inr rfl) (pe_lst pa_nil))
    (pss_cons (ps_for PassesOwn.never rfl (pi_seq (K := c.K) (pv 1)) (pg_name (i := 3) sc__law_fewer.nd rfl (by first | exact Or.inl rfl | exact Or.inr rfl)) (pss_cons (ps_set (i := 4) sc__law_fewer.nd rfl (by first | exact Or.inl rfl | exact Or.inr rfl) (pe_lst pa_nil))
    (pss_cons (ps_for PassesOwn.never rfl (pi_seq (K := c.K) (pv 3)) (pg_name (i := 5) sc__law_fewer.nd rfl (by first | exact Or.inl rfl | exact Or.inr rfl)) (pss_one (ps_expr (pe_bm PySem.F.plainAttrs_list PySem.F.slot_list_extend PySem.F.type_list_extend mt_extend (pv 4) (pa_cons (pe_op op_mulU (pe_lst (pa_cons (pv 5) pa_nil)) (pe_callTy call_intU (by rfl) B.int (by decide +kernel) (pa_cons (pe_cmpR op_gtU (pe_f D__law_take (hr.mono (by decide)) (by rfl) (pa_cons (pv 0) (pa_cons pe_int pa_nil))) pe_int (nomark _)) pa_nil))) pa_nil)))))
    (pss_one (ps_expr (pe_bm PySem.F.plainAttrs_list PySem.F.slot_list_append PySem.F.type_list_append mt_append (pv 2) (pa_cons (pe_callTy (call_tupU (K := c.K)) (by rfl) B.tuple (by decide +kernel) (pa_cons (pv 4) pa_nil)) pa_nil)))))))
    (pss_one (ps_ret (pe_callTy (call_tupU (K := c.K)) (by rfl) B.tuple (by decide +kernel) (pa_cons (pv 2) pa_nil)))))), ?_⟩
    refine ⟨Nat.zero_le _, fun t ft => ?_⟩
    have ntp : t ≠ p := fun e => by
      obtain ⟨_, _, _, e1, _⟩ := id hp
      rw [e, e1] at ft
      cases ft
    have g0 : Go [] H (upd H t (.lst [])) := Go.new ft
    refine .inl (.inr ⟨_, rfl, w, rfl, ⟨_, g0.sqT v1⟩, ?_⟩)
    refine for_it (walk_tup (xs := bs.map V.ref)) (fun i σ H' => Go [p] H H' ∧ Pot H' p (n + 4 * i) ∧ ∃ (as : List Addr) (ws' : List (List Str)) (z3 z4 z5 : Option V), H' t = some (.lst (as.map V.ref)) ∧ NmsAt c.K H' as ws' ∧ as.length = i ∧ (∀ (j : Nat) fs', ws'[j]? = some fs' → fs'.Sublist (ws.getD j [])) ∧
      σ = [some (.ref p), some (.ref w), some (.ref t), z3, z4, z5]) ?_ (fun i σ H' _ h => h.1.sqT v1) ?_ ?_
    · exact ⟨g0.wide, hp.go g0, [], [], _, _, _, upd_same, ⟨rfl, fun j x r e => by simp at e⟩, rfl, (fun j fs h => by simp at h), rfl⟩
    · rintro i x σ H2 H3 hi ⟨g2, hp2, as, ws', z3, z4, z5, k1, k2, k3, k4, rfl⟩ ⟨rfl, hx⟩
      rw [hbl] at hi
      obtain ⟨ba, hba⟩ : ∃ a, bs[i]? = some a := ⟨_, List.getElem?_eq_getElem (by omega)⟩
      have ex : x = .ref ba := ref_at hba hx
      subst ex
      have hrow := v3 i ba _ hba (row_at hi)
      have r4 := f4 _ (List.mem_of_getElem? (row_at hi))
      generalize hfs : ws.getD i [] = fs at hrow r4
      have hfl : (fs.map V.str).length = fs.length := by simp
      refine ⟨Nat.zero_le _, fun lt flt => ?_⟩
      have ltp : lt ≠ p := fun e => by
        obtain ⟨_, _, _, e1, _⟩ := id hp2
        rw [e, e1] at flt
        cases flt
      have ltt : lt ≠ t := fun e => by rw [e, k1] at flt; cases flt
      have g4 : Go [] H3 (upd H3 lt (.lst [])) := Go.new flt
      have flt0 : H lt = none := by
        cases e : H lt with
        | none => rfl
        | some o =>
          have := g2.old lt o (by simpa using ltp) e
          rw [this] at flt
          cases flt
      refine .inl (.inr ⟨_, rfl, ba, rfl, ⟨_, g4.sqT (g2.sqT hrow)⟩, ?_⟩)
      refine for_it (walk_tup (xs := fs.map V.str)) (fun j σ H' => Go [p] H H' ∧ Pot H' p (n + 4 * i + j) ∧ H' t = some (.lst (as.map V.ref)) ∧ NmsAt c.K H' as ws' ∧
        ∃ (os : List Str) (y5 : Option V), H' lt = some (.lst (os.map V.str)) ∧ os.Sublist (fs.take j) ∧ σ = [some (.ref p), some (.ref w), some (.ref t), some (.ref ba), some (.ref lt), y5]) ?_ (fun j σ H' _ h => h.1.sqT hrow) ?_ ?_
      · exact ⟨g2.trans g4.wide, hp2.go g4, g4.old t _ (fun z => nomatch z) k1, k2.go g4, [], _, upd_same, List.nil_sublist _, rfl⟩
      · rintro j y σ H4 H5 hj ⟨g5, hp4, m1, m4, os, y5, m5, m6, rfl⟩ ⟨rfl, hy⟩
        rw [hfl] at hj
        have ey := str_at hy
        subst ey
        obtain ⟨pg, hpg⟩ : ∃ pg, fs[j]? = some pg := ⟨_, List.getElem?_eq_getElem hj⟩
        have epg : fs.getD j Str.empty = pg := by rw [List.getD_eq_getElem?_getD, hpg]; rfl
        rw [epg]
        refine ⟨_, rfl, .inl ⟨rfl, _, SqL.of m5⟩, _, rfl, by show 1 ≤ sizeLine; decide, fun b1 fb1 => ?_⟩
        have gb1 : Go [] H5 (upd H5 b1 (.lst [.str pg])) := Go.new fb1
        have hb1 : (upd H5 b1 (.lst [.str pg])) b1 = some (.lst [.str pg]) := upd_same
        have b1p : b1 ≠ p := fun e => by
          obtain ⟨_, _, _, e1, _⟩ := id hp4
          rw [e, e1] at fb1
          cases fb1
        refine ⟨_, rfl, p, n + 4 * i + j, 3, rfl, hp4.go gb1, by omega, by decide, by decide, fun r H6 hr6 g6 hp6 => r_gtI (.inr ⟨_, rfl, ?_⟩)⟩
        have hb16 := g6.old b1 _ (by simpa using b1p) hb1
        have eu : (if decide ((r : Int) > 0) = true then (1 : Int) else 0) = ((if 0 < r then 1 else 0 : Nat) : Int) := by
          by_cases h0 : 0 < r
          · rw [if_pos h0, decide_eq_true (by omega)]
            rfl
          · rw [if_neg h0, decide_eq_false (by omega)]
            rfl
        rw [eu]
        obtain ⟨u, hu'⟩ : ∃ u : Nat, u = if 0 < r then 1 else 0 := ⟨_, rfl⟩
        rw [← hu']
        have u1 : u ≤ 1 := by
          rw [hu']
          split <;> omega
        refine .inr ⟨b1, (u : Int), [.str pg], rfl, rfl, hb16, by omega, by omega, by rw [sizeLine_eq]; simp; omega, fun b2 fb2 => ?_⟩
        have el : (List.replicate ((u : Int)).toNat [V.str pg]).flatten = (if u = 0 then [] else [pg]).map V.str := by
          rw [Int.toNat_natCast]
          rcases (by omega : u = 0 ∨ u = 1) with z | z <;> rw [z] <;> rfl
        rw [el]
        have gb2 : Go [] H6 (upd H6 b2 (.lst ((if u = 0 then [] else [pg]).map V.str))) := Go.new fb2
        have hb2 : (upd H6 b2 (.lst ((if u = 0 then [] else [pg]).map V.str))) b2 = some (.lst ((if u = 0 then [] else [pg]).map V.str)) := upd_same
        have G : Go [p] H5 (upd H6 b2 (.lst ((if u = 0 then [] else [pg]).map V.str))) := gb1.wide.trans (g6.trans gb2.wide)
        have hp7 := hp6.go gb2
        generalize (upd H6 b2 (.lst ((if u = 0 then [] else [pg]).map V.str))) = H7 at hb2 G hp7 ⊢
        have lt7 := G.old lt _ (by simpa using ltp) m5
        have t7 := G.old t _ (by simpa using ntp) m1
        have ol : os.length ≤ 4 := by
          have := m6.length_le
          rw [List.length_take] at this
          omega
        have le1 : (if u = 0 then [] else [pg]).length ≤ 1 := by split <;> simp
        refine r_nil ⟨lt, b2, _, _, rfl, rfl, lt7, hb2, by simp only [List.length_map]; rw [sizeLine_eq]; omega, ?_⟩
        have gp : Go [lt] H7 (upd H7 lt (.lst (os.map V.str ++ (if u = 0 then [] else [pg]).map V.str))) := Go.put lt7 rfl (List.Mem.head _)
        refine ⟨(g5.trans G).mut flt0, ?_, ?_, (m4.go G).go gp, os ++ (if u = 0 then [] else [pg]), _, ?_, ?_, rfl⟩
        · obtain ⟨x1, x2, x3, x4, x5⟩ := hp7
          exact ⟨x1, x2, x3, by rw [upd_ne ltp.symm]; exact x4, by omega⟩
        · rw [upd_ne ltt.symm]
          exact t7
        · rw [List.map_append]
          exact upd_same
        · have e1 : fs.take (j + 1) = fs.take j ++ [pg] := by
            rw [List.take_add_one, hpg]
            rfl
          rw [e1]
          refine m6.append ?_
          split
          · exact List.nil_sublist _
          · exact List.Sublist.refl _
      · rintro σ H4 ⟨g5, hp4, m1, m4, os, y5, m5, m6, rfl⟩
        rw [hfl] at hp4 m6
        rw [List.take_length] at m6
        refine ⟨_, rfl, .inl ⟨rfl, _, SqL.of m1⟩, _, rfl, r_nil ⟨lt, _, rfl, .inl ⟨SqL.of m5, fun b fb => r_nil ?_⟩⟩⟩
        have gb : Go [] H4 (upd H4 b (.tup (os.map V.str))) := Go.new fb
        have hb : SqT c.K (upd H4 b (.tup (os.map V.str))) b (os.map V.str) := SqT.of upd_same
        have t4 := gb.old t _ (fun z => nomatch z) m1
        have hp5 := hp4.go gb
        generalize (upd H4 b (.tup (os.map V.str))) = H5 at gb hb t4 hp5 ⊢
        refine ⟨t, as.map V.ref, .ref b, rfl, rfl, t4, by rw [List.length_map, sizeLine_eq]; omega, ?_⟩
        have gp : Go [t] H5 (upd H5 t (.lst (as.map V.ref ++ [.ref b]))) := Go.put t4 rfl (List.Mem.head _)
        have ft0 : H t = none := ft
        have wsl : ws'.length = i := by rw [← k2.1, k3]
        refine ⟨(g5.trans gb.wide).mut ft0, ?_, as ++ [b], ws' ++ [os], _, _, _, ?_, ?_, by simp [k3], ?_, rfl⟩
        · obtain ⟨x1, x2, x3, x4, x5⟩ := hp5
          exact ⟨x1, x2, x3, by rw [upd_ne ntp.symm]; exact x4, by omega⟩
        · rw [List.map_append]
          exact upd_same
        · refine ((m4.go gb).go gp).app ⟨rfl, fun j x r e1 e2 => ?_⟩
          cases j with
          | zero =>
            have e1' : b = x := by simpa using e1
            have e2' : os = r := by simpa using e2
            subst e1' e2'
            exact gp.sqT hb
          | succ j => simp at e1
        · intro j fs' hf
          by_cases hj : j < ws'.length
          · rw [List.getElem?_append_left hj] at hf
            exact k4 j fs' hf
          · have hj2 : j = ws'.length := by
              have := (List.getElem?_eq_some_iff.mp hf).1
              simp at this
              omega
            subst hj2
            have e2 : os = fs' := by simpa using hf
            rw [← e2, wsl, hfs]
            exact m6
    · rintro σ H2 ⟨g2, hp2, as, ws', z3, z4, z5, k1, k2, k3, k4, rfl⟩
      rw [hbl] at hp2 k3
      refine ⟨_, rfl, r_nil ⟨t, _, rfl, .inl ⟨SqL.of k1, fun b fb => ?_⟩⟩⟩
      have gb : Go [] H2 (upd H2 b (.tup (as.map V.ref))) := Go.new fb
      exact q _ b ws' (g2.trans gb.wide) ((hp2.go gb).up (by omega)) ⟨as, SqT.of upd_same, k2.1, fun j a fs e1 e2 => gb.sqT (k2.2 j a fs e1 e2)⟩ (by rw [← k2.1, k3]) k4
end
end Sd

/-! L11c: the law's look at what drawn watches leave unseen -/
namespace Sd
open PySem PySem.Spec PyProof.Rows L2 RZ RT
theorem run_tiny {m : Mac} (hD : DrawnM m) {ss : List Stp} (h : ∀ s ∈ ss, ∃ i : Nat, m.steps[i]? = some s) : ∀ s ∈ ss.map Stp.name, tinyB s = true := fun s hs => by
  obtain ⟨st, hst, rfl⟩ := List.mem_map.mp hs
  obtain ⟨i, hi⟩ := h st hst
  obtain ⟨np, N, k, _, _, _, _, N8, hdr, _⟩ := hD.ex
  rw [(hdr.2 i st hi).name]
  have := (List.getElem?_eq_some_iff.mp hi).1
  exact ltr_tiny (by have := hdr.1; omega)
theorem MacAt.goP {K : PySem.W.Frag} {C : Addr} {H H' : Hp} {o p : Addr} {n : Nat} {m : Mac} {cs : List (List Nat)} (h : MacAt K C H o m cs) (g : Go [p] H H') (hp : Pot H p n) : MacAt K C H' o m cs := by
  obtain ⟨dx, fs, a1, a2, a3, a5, a6, a7, d1, d2, ts, kv1, kv2, e0, e1, e2, e3, e4, e5, e6, e7, e8, e9, e10, e11, e12, e13, e14, e15, e16, e17, e18, e19, e20, e21, e22, e23⟩ := h.ex
  obtain ⟨_, _, _, ep, _⟩ := hp
  have kp : ∀ b kvs, H b = some (.dK kvs) → H' b = some (.dK kvs) := fun b kvs e => g.old b _ (fun z => by rw [List.mem_singleton.mp z, ep] at e; cases e) e
  refine ⟨dx, fs, a1, a2, a3, a5, a6, a7, d1, d2, ts, kv1, kv2, g.fix o _ rfl e0, e1, e2.go g, e3, g.sqT e4, e5, g.sqT e6, e7, e8, g.sqT e9, e10, g.sqT e11, e12, g.sqT e13, e14, fun j t ix z1 z2 => g.sqT (e15 j t ix z1 z2), e16, kp _ _ e17, e18, e19, kp _ _ e20, e21, fun i s q z1 z2 => ?_, e23⟩
  obtain ⟨f, z, z'⟩ := e22 i s q z1 z2
  exact ⟨f, z, g.sqT z'⟩
theorem watch_small {m : Mac} (hD : DrawnM m) {ws : List (List Str)} (h : ∀ fs ∈ ws, fs.Sublist m.pages) : ∀ r ∈ ws, r.length ≤ 4 ∧ ∀ s ∈ r, tinyB s = true := fun r hr => by
  obtain ⟨np, N, k, hp, n2, n4, _⟩ := hD.ex
  have hs := h r hr
  refine ⟨?_, fun s hs' => pqrs_tiny s ?_⟩
  · have := hs.length_le
    rw [hp, List.length_take] at this
    omega
  · have := hs.subset hs'
    rw [hp] at this
    exact List.mem_of_mem_take this
theorem full_ex {m : Mac} (hB : macB m = true) (ss : List Stp) : ∃ k, fullIn m ss k := by
  have a : ∀ n, (∃ k, fullIn m ss k) ∨ stF m.clock n ≤ ss.length := by
    intro n
    induction n with
    | zero => exact .inr (Nat.zero_le _)
    | succ n ih =>
      rcases ih with h | h
      · exact .inl h
      · rcases Nat.lt_or_ge ss.length (stF m.clock (n + 1)) with z | z
        · exact .inl ⟨n, h, z⟩
        · exact .inr z
  rcases a (ss.length + 1) with h | h
  · exact h
  · have := stF_ge hB (ss.length + 1)
    omega
theorem full_eq {m : Mac} {ss : List Stp} {k k' : Nat} (h : fullIn m ss k) (h' : fullIn m ss k') : k = k' := Nat.le_antisymm (full_le h' h (Nat.le_refl _)) (full_le h h' (Nat.le_refl _))
/-- watches at these addresses -/
structure Wts (K : PySem.W.Frag) (H : Hp) (m : Mac) (as : List Addr) (wss : List (List (List Str))) : Prop where
  len : as.length = wss.length
  at_ : ∀ (j : Nat) (a : Addr) (ws : List (List Str)), as[j]? = some a → wss[j]? = some ws → WatAt K H a ws ∧ ws.length = m.clock.length ∧ ∀ fs ∈ ws, fs.Sublist m.pages
theorem Wts.go {K : PySem.W.Frag} {M : List Addr} {H H' : Hp} {m : Mac} {as : List Addr} {wss : List (List (List Str))} (h : Wts K H m as wss) (g : Go M H H') : Wts K H' m as wss := ⟨h.len, fun j a ws e1 e2 => by
  obtain ⟨x1, x2, x3⟩ := h.at_ j a ws e1 e2
  exact ⟨x1.go g, x2, x3⟩⟩
theorem bools5 : ∀ b0 b1 b2 b3 b4 : Bool, (PyData.list [.bool b0, .bool b1, .bool b2, .bool b3, .bool b4]).shown.length ≤ 100 := by decide +kernel
theorem bools_at {K : PySem.W.Frag} {H : Hp} : ∀ bs : List Bool, DpAll K H (bs.map V.bl) (bs.map PyData.bool)
  | [] => .nil
  | b :: bs => .cons (.bl b) (bools_at bs)
theorem bools_show : ∀ bs : List Bool, PyData.showableAll (bs.map PyData.bool) = true
  | [] => rfl
  | b :: bs => by
    show (true && PyData.showableAll (bs.map PyData.bool)) = true
    rw [bools_show bs]
    rfl
theorem bools_dep : ∀ bs : List Bool, PyData.depthAll (bs.map PyData.bool) = 0
  | [] => rfl
  | b :: bs => by
    show max 0 (PyData.depthAll (bs.map PyData.bool)) = 0
    rw [bools_dep bs]
    rfl
theorem bools_len {bs : List Bool} (h : bs.length = 5) : (PyData.list (bs.map PyData.bool)).shown.length ≤ 100 := by
  match bs, h with
  | [b0, b1, b2, b3, b4], _ => exact bools5 b0 b1 b2 b3 b4
def spRight (c : Wd) : Sp := fun vs H Q _ => ∃ (p : Addr) (n : Nat), vs = [.ref p] ∧ Pot H p n ∧ n ≤ 2 ^ 27 ∧ ∀ H', Go [p] H H' → Pot H' p (n + 700) → Q (.bl true) H'
section
variable {c : Wd} {C : Addr}
abbrev s__law_right : Stmt := topS 64
abbrev N__law_right : List Str := ["_law_pot", "_law_lore_here", "_law_made_here", "_law_watches_here", "_law_turn", "_law_one", "_law_whole", "_law_none", "_law_first", "_law_second", "_law_run", "_law_left", "_law_watch", "_law_told", "_law_due", "_law_other", "_law_ticks_here", "_law_page"]
abbrev P__law_right : List Str := ["_law_pot"]
theorem sc__law_right : FnScope N__law_right P__law_right (defScope s__law_right) := ⟨rfl, rfl, rfl, by decide +kernel, rfl, by decide +kernel, by decide +kernel⟩
theorem ok_right (F : At c "_law_right" "_law_right" s__law_right P__law_right) (B : Bi c) (D__law_lore : Ok c "_law_lore" 4 P__law_lore (spLore c)) (D__law_made : Ok c "_law_made" 7 P__law_made (spLMade c C))
    (D__law_drawn_run : Ok c "_law_drawn_run" 3 P__law_drawn_run (spLRun c)) (D__law_drawn_watch : Ok c "_law_drawn_watch" 2 P__law_drawn_watch (spLWatch c)) (D__law_fewer : Ok c "_law_fewer" 2 P__law_fewer (spLFewer c)) (D__law_is_left : Ok c "_law_is_left" 3 P__law_is_left (spLLeft c))
    (D__law_is_less : Ok c "_law_is_less" 1 P__law_is_less (spLLess c)) (D_unseen : Ok c "unseen" 7 P_unseen (spSeen c C false)) (D_coarser : Ok c "coarser" 6 P_coarser (spCoarse c C)) : OkG c "_law_right" 8 P__law_right (spRight c) := by
  refine OkG.of F sc__law_right (fun vs H Q E h => ?_) (fun f cdv A out s H vs Q E hG hr h => ?_)
  · obtain ⟨p, n, rfl, _⟩ := h
    rfl
  · obtain ⟨p, n, rfl, hp, hn, q⟩ := h
    have hu1 := hu_of hr
    have hu := hr.units
    have hu5 := hr.u5
    refine ⟨_, (pss_cons (ps_set (i := 1) sc__law_right.nd rfl (by first | exact Or.inl rfl | exact Or.inr rfl) (pe_f D__law_lore (hr.mono (by decide)) (by rfl) (pa_cons (pv 0) (pa_cons pe_int (pa_cons pe_int (pa_cons pe_int (pa_cons pe_int pa_nil)))))))
    (pss_cons (ps_set (i := 2) sc__law_right.nd rfl (by first | exact Or.inl rfl | exact Or.inr rfl) (pe_f D__law_made (hr.mono (by decide)) (by rfl) (pa_cons (pv 1) pa_nil)))
    (pss_cons (ps_par (i := 6) (j := 7) rfl sc__law_right.nd rfl rfl (by decide) rfl rfl (pa_cons (pe_callTy (call_tupU (K := c.K)) (by rfl) B.tuple (by decide +kernel) (pa_cons (pe_lc (own := [("_law_ticks_here", 16)]) rfl sc__law_right.nd (pi_seq (K := c.K) (pe_ixU (K := c.K) hu1 (pv 1) pe_str (fun _ _ => rfl) (fun _ _ => rfl))) (blkOk_by (N := N__law_right) (sc := defScope s__law_right) (by decide +kernel)) (fun _ _ _ _ _ => (pg_name (i := 16) sc__law_right.nd rfl (by first | exact Or.inl rfl | exact Or.inr rfl))) (fun _ _ _ _ _ => pts_nil) (fun _ _ _ _ _ => (pe_ixU (K := c.K) hu1 (pv 1) pe_str (fun _ _ => rfl) (fun _ _ => rfl)))) pa_nil)) (pa_cons (pe_callTy (call_tupU (K := c.K)) (by rfl) B.tuple (by decide +kernel) (pa_cons (pe_lc (own := [("_law_ticks_here", 16)]) rfl sc__law_right.nd (pi_seq (K := c.K) (pe_ixU (K := c.K) hu1 (pv 1) pe_str (fun _ _ => rfl) (fun _ _ => rfl))) (blkOk_by (N := N__law_right) (sc := defScope s__law_right) (by decide +kernel)) (fun _ _ _ _ _ => (pg_name (i := 16) sc__law_right.nd rfl (by first | exact Or.inl rfl | exact Or.inr rfl))) (fun _ _ _ _ _ => pts_nil) (fun _ _ _ _ _ => (pe_tup pa_nil))) pa_nil)) pa_nil)) (by rfl))
    (pss_cons (ps_par (i := 8) (j := 9) rfl sc__law_right.nd rfl rfl (by decide) rfl rfl (pa_cons (pe_f D__law_drawn_watch (hr.mono (by decide)) (by rfl) (pa_cons (pv 0) (pa_cons (pv 1) pa_nil))) (pa_cons (pe_f D__law_drawn_watch (hr.mono (by decide)) (by rfl) (pa_cons (pv 0) (pa_cons (pv 1) pa_nil))) pa_nil)) (by rfl))
    (pss_cons (ps_set (i := 3) sc__law_right.nd rfl (by first | exact Or.inl rfl | exact Or.inr rfl) (pe_lst (pa_cons (pv 8) (pa_cons (pv 9) (pa_cons (pe_f D__law_fewer (hr.mono (by decide)) (by rfl) (pa_cons (pv 0) (pa_cons (pv 8) pa_nil))) (pa_cons (pv 6) (pa_cons (pv 7) pa_nil)))))))
    (pss_cons (ps_for PassesOwn.never rfl (pi_range1 (by rfl) B.range (pa_cons pe_int pa_nil)) (pg_name (i := 4) sc__law_right.nd rfl (by first | exact Or.inl rfl | exact Or.inr rfl)) (pss_cons (ps_set (i := 10) sc__law_right.nd rfl (by first | exact Or.inl rfl | exact Or.inr rfl) (pe_f D__law_drawn_run (hr.mono (by decide)) (by rfl) (pa_cons (pv 0) (pa_cons (pv 1) (pa_cons pe_int pa_nil)))))
    (pss_cons (ps_set (i := 11) sc__law_right.nd rfl (by first | exact Or.inl rfl | exact Or.inr rfl) (pe_lst pa_nil))
    (pss_cons (ps_for PassesOwn.never rfl (pi_seq (K := c.K) (pv 3)) (pg_name (i := 12) sc__law_right.nd rfl (by first | exact Or.inl rfl | exact Or.inr rfl)) (pss_cons (ps_set (i := 14) sc__law_right.nd rfl (by first | exact Or.inl rfl | exact Or.inr rfl) (pe_callTy (call_tupU (K := c.K)) (by rfl) B.tuple (by decide +kernel) (pa_cons (pe_lc (own := [("_law_page", 17)]) rfl sc__law_right.nd (pi_seq (K := c.K) (pe_ixU (K := c.K) hu1 (pv 1) pe_str (fun _ _ => rfl) (fun _ _ => rfl))) (blkOk_by (N := N__law_right) (sc := defScope s__law_right) (by decide +kernel)) (fun _ _ _ _ _ => (pg_name (i := 17) sc__law_right.nd rfl (by first | exact Or.inl rfl | exact Or.inr rfl))) (fun _ _ _ _ _ => pts_one (pt_val (pe_f D__law_is_left (hr.mono (by decide)) (by rfl) (pa_cons (pv 1) (pa_cons (pv 12) (pa_cons (pv 10) (pa_cons (pv 17) pa_nil))))))) (fun _ _ _ _ _ => (pv 17))) pa_nil)))
    (pss_cons (ps_if (pt_cmpR (op_neU (K := c.K) hu) (pe_callB (call_reprU (K := c.K) hG) (by rfl) B.repr (by decide +kernel) (pa_cons (pe_f D_unseen (hr.mono (by decide)) (by rfl) (pa_cons (pv 2) (pa_cons (pv 12) (pa_cons (pv 10) pa_nil)))) pa_nil)) (pe_callB (call_reprU (K := c.K) hG) (by rfl) B.repr (by decide +kernel) (pa_cons (pv 14) pa_nil)) (nomark _)) (pss_one (ps_ret pe_bl)) pss_nil)
    (pss_one (ps_expr (pe_bm PySem.F.plainAttrs_list PySem.F.slot_list_append PySem.F.type_list_append mt_append (pv 11) (pa_cons (pv 14) pa_nil)))))))
    (pss_one (ps_if (pt_not (pt_val (pe_callB (call_allU (K := c.K) rfl) (by rfl) B.all (by decide +kernel) (pa_cons (pe_lc (own := [("_law_page", 17)]) rfl sc__law_right.nd (pi_seq (K := c.K) (pe_ixU (K := c.K) hu1 (pv 11) pe_int (fun _ _ => rfl) (fun _ _ => rfl))) (blkOk_by (N := N__law_right) (sc := defScope s__law_right) (by decide +kernel)) (fun _ _ _ _ _ => (pg_name (i := 17) sc__law_right.nd rfl (by first | exact Or.inl rfl | exact Or.inr rfl))) (fun _ _ _ _ _ => pts_nil) (fun _ _ _ _ _ => (pe_cmpR (op_inU (K := c.K) hu5) (pv 17) (pe_ixU (K := c.K) hu1 (pv 11) pe_int (fun _ _ => rfl) (fun _ _ => rfl)) (by rfl)))) pa_nil)))) (pss_one (ps_ret pe_bl)) pss_nil))))))
    (pss_cons (ps_for PassesOwn.never rfl (pi_seq (K := c.K) (pv 3)) (pg_name (i := 5) sc__law_right.nd rfl (by first | exact Or.inl rfl | exact Or.inr rfl)) (pss_cons (ps_setLc (i := 13) (own := [("_law_other", 15)]) rfl sc__law_right.nd rfl rfl (sw_true rfl rfl rfl (by decide +kernel)) (pi_seq (K := c.K) (pv 3)) (blkOk_by (N := N__law_right) (sc := defScope s__law_right) (by decide +kernel)) (fun _ _ _ _ _ => (pg_name (i := 15) sc__law_right.nd rfl (by first | exact Or.inl rfl | exact Or.inr rfl))) (fun _ _ _ _ _ => pts_nil) (fun _ _ _ _ _ => (pe_f D_coarser (hr.mono (by decide)) (by rfl) (pa_cons (pv 2) (pa_cons (pv 5) (pa_cons (pv 15) pa_nil))))))
    (pss_cons (ps_if (pt_cmpR (op_neU (K := c.K) hu) (pe_callB (call_reprU (K := c.K) hG) (by rfl) B.repr (by decide +kernel) (pa_cons (pv 13) pa_nil)) (pe_callB (call_reprU (K := c.K) hG) (by rfl) B.repr (by decide +kernel) (pa_cons (pe_lc (own := [("_law_other", 15)]) rfl sc__law_right.nd (pi_seq (K := c.K) (pv 3)) (blkOk_by (N := N__law_right) (sc := defScope s__law_right) (by decide +kernel)) (fun _ _ _ _ _ => (pg_name (i := 15) sc__law_right.nd rfl (by first | exact Or.inl rfl | exact Or.inr rfl))) (fun _ _ _ _ _ => pts_nil) (fun _ _ _ _ _ => (pe_f D__law_is_less (hr.mono (by decide)) (by rfl) (pa_cons (pv 5) (pa_cons (pv 15) pa_nil))))) pa_nil)) (nomark _)) (pss_one (ps_ret pe_bl)) pss_nil)
    (pss_one (ps_if (PW.pt (pw_or (pt_cmpR op_notBl (pe_f D_coarser (hr.mono (by decide)) (by rfl) (pa_cons (pv 2) (pa_cons (pv 5) (pa_cons (pv 5) pa_nil)))) pe_bl (nomark _)) (pw_or1 (pt_cmpR op_notBl (pe_f D_coarser (hr.mono (by decide)) (by rfl) (pa_cons (pv 2) (pa_cons (pv 7) (pa_cons (pv 5) pa_nil)))) pe_bl (nomark _))))) (pss_one (ps_ret pe_bl)) pss_nil)))))
    (pss_one (ps_ret (pe_cmpR op_isBl (pe_f D_coarser (hr.mono (by decide)) (by rfl) (pa_cons (pv 2) (pa_cons (pe_ixU (K := c.K) hu1 (pv 3) pe_int (fun _ _ => rfl) (fun _ _ => rfl)) (pa_cons (pv 8) pa_nil)))) pe_bl (nomark _))))))))))), ?_⟩
    refine ⟨_, rfl, p, n, 6, 4, 3, 3, rfl, hp, by omega, by decide, by decide, by decide, by decide, by decide, by decide, by decide, by decide, fun H1 d m fd g1 hp1 hL hD hm3 => ?_⟩
    have ndp := ne_lore hL hp1
    refine ⟨_, rfl, d, m, rfl, hL, hD, fun H4 o cs g4 hM hC hS => ?_⟩
    have hL4 := hL.go g4 (by simp)
    have hp4 := hp1.go g4
    have G4 := g1.trans g4.wide
    have hB := drawn_right hD
    have cl3 : m.clock.length ≤ 3 := by
      simp only [macB, clockB, Bool.and_eq_true, decide_eq_true_eq] at hB
      exact hB.2.1.2.1
    have pl4 : m.pages.length ≤ 4 := by
      simp only [macB, pagesB, Bool.and_eq_true, decide_eq_true_eq] at hB
      exact hB.2.2.1.2.2.1
    have hcl : (intsV m.clock).length = m.clock.length := by simp [intsV]
    clear g4 hp1 hL g1
    obtain ⟨a1, a2, a3, a5, h1, h2, h3, h4, h5⟩ := id hL4.ex
    refine .inl (.inr (.inr ⟨_, rfl, d, _, rfl, lget h1 lore_clock, a2, rfl, ⟨_, h3⟩, fun D hD' => ?_⟩))
    refine lc_map (walk_tup (xs := intsV m.clock)) [] (fun _ _ => True) (fun i y H' => ∃ a r, y = .ref a ∧ SqT c.K H' a (r.map V.str) ∧ r = m.pages) yk_at
      (by omega) hD' (fun _ h => nomatch h) (fun H' g => g.sqT h3) trivial (fun _ _ _ _ _ => trivial) (fun _ _ _ _ _ g h => by obtain ⟨a, r, e1, e2, e3⟩ := h; exact ⟨a, r, e1, g.sqT e2, e3⟩) ?_ ?_
    · rintro i y H2 H3 Fin hi g2 g3 _ ⟨rfl, hx⟩ fin
      exact ⟨rfl, .inr ⟨_, rfl, d, _, rfl, lget (g2.old d _ (fun z => nomatch z) h1) lore_pages, fin _ _ (Go.refl _ _) trivial ⟨a3, m.pages, rfl, g2.sqT h4, rfl⟩⟩⟩
    intro H5 ys g5 _ hD5 hl5 hr5
    obtain ⟨as3, rs3, rfl, hN3, hP3⟩ := rows_of hr5
    rw [List.length_map] at hl5
    refine r_nil ⟨D, _, rfl, .inl ⟨SqL.of hD5, fun w3 fw3 => ?_⟩⟩
    have g6 : Go [] H5 (upd H5 w3 (.tup (as3.map V.ref))) := Go.new fw3
    have hW3 : WatAt c.K (upd H5 w3 (.tup (as3.map V.ref))) w3 rs3 := ⟨as3, SqT.of upd_same, hN3.1, fun j a fs e1 e2 => g6.sqT (hN3.2 j a fs e1 e2)⟩
    have g46 := g5.trans g6
    have rl3 : rs3.length = m.clock.length := by rw [← hN3.1, hl5, hcl]
    generalize (upd H5 w3 (.tup (as3.map V.ref))) = H6 at g46 hW3 ⊢
    clear g5 g6 hD5 hr5 hN3
    have hL6 := hL4.go g46 (by simp)
    refine .inl (.inr (.inr ⟨_, rfl, d, _, rfl, lget (g46.old d _ (fun z => nomatch z) h1) lore_clock, a2, rfl, ⟨_, g46.sqT h3⟩, fun D2 hD2' => ?_⟩))
    refine lc_map (walk_tup (xs := intsV m.clock)) [] (fun _ _ => True) (fun i y H' => ∃ a r, y = .ref a ∧ SqT c.K H' a (r.map V.str) ∧ r = ([] : List Str)) yk_at
      (by omega) hD2' (fun _ h => nomatch h) (fun H' g => g.sqT (g46.sqT h3)) trivial (fun _ _ _ _ _ => trivial) (fun _ _ _ _ _ g h => by obtain ⟨a, r, e1, e2, e3⟩ := h; exact ⟨a, r, e1, g.sqT e2, e3⟩) ?_ ?_
    · rintro i y H2 H3 Fin hi g2 g3 _ ⟨rfl, hx⟩ fin
      refine ⟨rfl, r_nil ⟨Nat.zero_le _, fun T fT => ?_⟩⟩
      exact fin _ _ (Go.new fT) trivial ⟨T, [], rfl, SqT.of upd_same, rfl⟩
    intro H7 ys g7 _ hD7 hl7 hr7
    obtain ⟨as4, rs4, rfl, hN4, hP4⟩ := rows_of hr7
    rw [List.length_map] at hl7
    refine r_nil ⟨D2, _, rfl, .inl ⟨SqL.of hD7, fun w4 fw4 => r_nil ⟨_, _, rfl, ?_⟩⟩⟩
    have g8 : Go [] H7 (upd H7 w4 (.tup (as4.map V.ref))) := Go.new fw4
    have hW4 : WatAt c.K (upd H7 w4 (.tup (as4.map V.ref))) w4 rs4 := ⟨as4, SqT.of upd_same, hN4.1, fun j a fs e1 e2 => g8.sqT (hN4.2 j a fs e1 e2)⟩
    have g48 := g46.trans (g7.trans g8)
    have rl4 : rs4.length = m.clock.length := by rw [← hN4.1, hl7, hcl]
    have hW38 := hW3.go (g7.trans g8)
    generalize (upd H7 w4 (.tup (as4.map V.ref))) = H8 at g48 hW4 hW38 ⊢
    clear g7 g8 hD7 hr7 hN4
    have hp8 := hp4.go g48
    have hL8 := hL4.go g48 (by simp)
    refine ⟨_, rfl, _, rfl, p, d, m, n + 120, rfl, hp8, by omega, hL8, hD, fun H9 w0 ws0 g9 hp9 hW0 hl0 hs0 => ?_⟩
    refine ⟨_, rfl, _, rfl, p, d, m, n + 120 + 12, rfl, hp9, by omega, hL8.go g9 (by simpa using ndp), hD, fun H10 w1 ws1 g10 hp10 hW1 hl1 hs1 => r_nil ⟨_, _, rfl, ?_⟩⟩
    have f4 : ∀ fs ∈ ws0, fs.length ≤ 4 := fun fs hf => Nat.le_trans (hs0 fs hf).length_le pl4
    refine ⟨_, rfl, _, rfl, _, rfl, _, rfl, p, w0, n + 120 + 12 + 12, ws0, rfl, hp10, by omega, hW0.go g10, by omega, f4, fun H11 w2 ws2 g11 hp11 hW2 hl2 hs2 => ⟨_, rfl, _, rfl, by show 5 ≤ sizeLine; decide, fun L fL => ?_⟩⟩
    have gL : Go [] H11 (upd H11 L (.lst [.ref w0, .ref w1, .ref w2, .ref w3, .ref w4])) := Go.new fL
    have hLL : (upd H11 L (.lst [.ref w0, .ref w1, .ref w2, .ref w3, .ref w4])) L = some (.lst [.ref w0, .ref w1, .ref w2, .ref w3, .ref w4]) := upd_same
    have g812 := g9.trans (g10.trans (g11.trans gL.wide))
    have g912 := g10.trans (g11.trans gL.wide)
    have g1012 := g11.trans gL.wide
    have nLp : L ≠ p := fun e => by
      obtain ⟨_, _, _, e1, _⟩ := id hp11
      rw [e, e1] at fL
      cases fL
    have less : ∀ i, ∀ g ∈ ws2.getD i [], g ∈ ws0.getD i [] := fun i g hg => by
      rw [List.getD_eq_getElem?_getD] at hg
      cases e : ws2[i]? with
      | none => rw [e] at hg; cases hg
      | some fs =>
        rw [e] at hg
        exact (hs2 i fs e).subset hg
    have hs2' : ∀ fs ∈ ws2, fs.Sublist m.pages := fun fs hf => by
      obtain ⟨i, hi⟩ := List.mem_iff_getElem?.mp hf
      have h1 := hs2 i fs hi
      have il : i < ws0.length := by rw [← hl2]; exact (List.getElem?_eq_some_iff.mp hi).1
      exact h1.trans (hs0 _ (List.mem_of_getElem? (row_at il)))
    have e0 : ∀ i, rs4.getD i [] = [] := fun i => by
      rw [List.getD_eq_getElem?_getD]
      cases e : rs4[i]? with
      | none => rfl
      | some fs => exact hP4 fs (List.mem_of_getElem? e)
    have hWt : Wts c.K (upd H11 L (.lst [.ref w0, .ref w1, .ref w2, .ref w3, .ref w4])) m [w0, w1, w2, w3, w4] [ws0, ws1, ws2, rs3, rs4] := by
      refine ⟨rfl, fun j a ws e1 e2 => ?_⟩
      match j, e1, e2 with
      | 0, e1, e2 =>
        cases e1; cases e2
        exact ⟨hW0.go g912, hl0, hs0⟩
      | 1, e1, e2 =>
        cases e1; cases e2
        exact ⟨hW1.go g1012, hl1, hs1⟩
      | 2, e1, e2 =>
        cases e1; cases e2
        exact ⟨hW2.go gL, by rw [hl2, hl0], hs2'⟩
      | 3, e1, e2 =>
        cases e1; cases e2
        exact ⟨hW38.go g812, rl3, fun fs hf => by rw [hP3 fs hf]; exact List.Sublist.refl _⟩
      | 4, e1, e2 =>
        cases e1; cases e2
        exact ⟨hW4.go g812, rl4, fun fs hf => by rw [hP4 fs hf]; exact List.nil_sublist _⟩
      | j + 5, e1, e2 => simp at e1
    have hp12 : Pot _ p (n + 160) := (hp11.go gL).up (by omega)
    have g412 : Go [p] H4 (upd H11 L (.lst [.ref w0, .ref w1, .ref w2, .ref w3, .ref w4])) := g48.wide.trans g812
    generalize (upd H11 L (.lst [.ref w0, .ref w1, .ref w2, .ref w3, .ref w4])) = H12 at hLL hWt hp12 g412 ⊢
    have hL12 := hL4.go g412 (by simpa using ndp)
    have hM12 := hM.goP g412 hp4
    have G12 := G4.trans g412
    clear g812 g912 g1012 gL hW0 hW1 hW2 hW3 hW38 hW4 hp8 hp9 hp10 hp11 hL8 g9 g10 g11 g48 g46
    generalize has : [w0, w1, w2, w3, w4] = as at hWt
    generalize hwss : [ws0, ws1, ws2, rs3, rs4] = wss at hWt
    have asl : as.length = 5 := by rw [← has]; rfl
    have wsl : wss.length = 5 := by rw [← hwss]; rfl
    have hLL' : H12 L = some (.lst (as.map V.ref)) := by rw [hLL, ← has]; rfl
    have asm : (as.map V.ref).length = 5 := by rw [List.length_map, asl]
    have wat : ∀ {H' : Hp} {M : List Addr}, Go M H12 H' → ∀ j, j < 5 → ∃ a ws, as[j]? = some a ∧ (as.map V.ref)[j]? = some (.ref a) ∧ wss[j]? = some ws ∧ wss.getD j [] = ws ∧ WatAt c.K H' a ws ∧ ws.length = m.clock.length ∧ (∀ fs ∈ ws, fs.Sublist m.pages) ∧ watchB m ws = true := fun {H'} {M} g j hj => by
      obtain ⟨a, ha⟩ : ∃ a, as[j]? = some a := ⟨_, List.getElem?_eq_getElem (by omega)⟩
      obtain ⟨ws, hws⟩ : ∃ a, wss[j]? = some a := ⟨_, List.getElem?_eq_getElem (by omega)⟩
      obtain ⟨x1, x2, x3⟩ := hWt.at_ j a ws ha hws
      refine ⟨a, ws, ha, by rw [List.getElem?_map, ha]; rfl, hws, by rw [List.getD_eq_getElem?_getD, hws]; rfl, x1.go g, x2, x3, sub_watch hD x2 x3⟩
    refine ⟨3, rfl, by decide, by decide, ?_⟩
    refine for_it (walk_range (lo := 0) (n := 3)) (fun i σ H' => Go [p] H12 H' ∧ Pot H' p (n + 160 + 20 * i) ∧ ∃ z4 z5 z10 z11 z12 z13 z14 z15 z16 z17 : Option V, σ = [some (.ref p), some (.ref d), some (.ref o), some (.ref L), z4, z5, some (.ref w3), some (.ref w4), some (.ref w0), some (.ref w1), z10, z11, z12, z13, z14, z15, z16, z17])
      ⟨Go.refl _ _, hp12, _, _, _, _, _, _, _, _, _, _, rfl⟩ (fun _ _ _ _ _ => trivial) ?_ ?_
    · rintro i y σ H5 H6 hi ⟨g5, hp5, z4, z5, z10, z11, z12, z13, z14, z15, z16, z17, rfl⟩ ⟨rfl, rfl⟩
      have hL5 := hL12.go g5 (by simpa using ndp)
      refine ⟨_, rfl, _, rfl, p, d, m, n + 160 + 20 * i, 18, rfl, hp5, by omega, by decide, by decide, hL5, hD, fun H8 r ss g8 hp8 hr8 hrun l1 l2 => ?_⟩
      have g128 := g5.trans g8
      have hL8 := hL5.go g8 (by simpa using ndp)
      have hM8 := hM12.goP g128 hp12
      obtain ⟨k, hk⟩ := full_ex hB ss
      refine ⟨Nat.zero_le _, fun l fl => ?_⟩
      have gl : Go [] H8 (upd H8 l (.lst [])) := Go.new fl
      have hl : (upd H8 l (.lst [])) l = some (.lst (([] : List Addr).map V.ref)) := upd_same
      have fl0 : H8 l = none := fl
      have hLL8 : H8 L = some (.lst (as.map V.ref)) := g128.old L _ (by simpa using nLp) hLL'
      have hLL9 := gl.old L _ (fun z => nomatch z) hLL8
      generalize (upd H8 l (.lst [])) = H9 at gl hl hLL9 ⊢
      refine .inl (.inl ⟨_, rfl, L, rfl, ⟨_, SqL.of hLL9⟩, ?_⟩)
      refine for_it (walk_list (xs := as.map V.ref)) (fun j σ H' => Go [] H8 H' ∧ ∃ (ls : List Addr) (z12 z14 z17 : Option V), H' l = some (.lst (ls.map V.ref)) ∧ ls.length = j ∧
        (∀ (u : Nat) (x : Addr) ws, ls[u]? = some x → wss[u]? = some ws → SqT c.K H' x ((leftS m ws ss k).map V.str)) ∧
        σ = [some (.ref p), some (.ref d), some (.ref o), some (.ref L), some (.int (0 + (i : Int))), z5, some (.ref w3), some (.ref w4), some (.ref w0), some (.ref w1), some (.ref r), some (.ref l), z12, z13, z14, z15, z16, z17]) ?_ (fun j σ H' _ h => SqL.of (h.1.old L _ (fun z => nomatch z) hLL8)) ?_ ?_
      · exact ⟨gl, [], _, _, _, hl, rfl, (fun u x ws e => by simp at e), rfl⟩
      · rintro j x σ H10 H11 hj ⟨g10, ls, z12, z14, z17, m1, m2, m3, rfl⟩ ⟨rfl, hx⟩
        rw [asm] at hj
        have g1210 : Go [p] H12 H11 := g128.trans g10.wide
        obtain ⟨wj, wsj, ha, har, hws, hwg, hWj, hlj, hsj, hBj⟩ := wat g1210 j hj
        have ex : x = .ref wj := ref_at ha hx
        subst ex
        have hL10 := hL8.go g10 (by simp)
        obtain ⟨b1, b2, b3, b5, i1, _, _, i4, _⟩ := id hL10.ex
        have hr10 := g10.sqT hr8
        have hpl : (m.pages.map V.str).length = m.pages.length := by simp
        refine .inl (.inr (.inr ⟨_, rfl, d, _, rfl, lget i1 lore_pages, b3, rfl, ⟨_, i4⟩, fun D hD' => ?_⟩))
        refine lc_fil (walk_tup (xs := m.pages.map V.str)) [] (fun _ _ => True) (fun i y _ => y = .str (m.pages.getD i Str.empty)) (fun i => leftB m wsj ss (m.pages.getD i Str.empty) k) yk_at
          (by omega) hD' (fun _ h => nomatch h) (fun H' g => g.sqT i4) trivial (fun _ _ _ _ _ => trivial) (fun _ _ _ _ _ _ h => h) ?_ ?_
        · rintro u y H13 H14 Fin Skip hu' g13 g14 _ ⟨rfl, hy⟩ fin skip
          have ey := str_at hy
          subst ey
          refine ⟨rfl, _, rfl, _, rfl, _, rfl, _, rfl, d, wj, r, _, m, wsj, ss, rfl, hL10.go g13 (by simp), hD, hWj.go g13, hlj, g13.sqT hr10, by omega, hrun.2, fun H15 k0 g15 hk0 => ?_⟩
          obtain rfl := full_eq hk0 hk
          refine ⟨_, rfl, ?_⟩
          cases hb : leftB m wsj ss (m.pages.getD u Str.empty) k0 with
          | true => exact (if_pos rfl).mpr ⟨_, rfl, fin _ _ hb g15 trivial rfl⟩
          | false => exact (if_neg (by decide)).mpr (skip _ hb g15 trivial)
        intro H13 ys g13 _ hD13 hl13 hr13
        rw [hpl] at hl13 hr13
        have ey := filt_list (p := fun g => leftB m wsj ss g k) hl13 (fun k y i e1 e2 => hr13 k y i e1 e2)
        subst ey
        have eleft : (m.pages.filter fun g => leftB m wsj ss g k) = leftS m wsj ss k := rfl
        rw [eleft] at hD13
        refine r_nil ⟨D, _, rfl, .inl ⟨SqL.of hD13, fun t ft => ?_⟩⟩
        have gt : Go [] H13 (upd H13 t (.tup ((leftS m wsj ss k).map V.str))) := Go.new ft
        have ht : SqT c.K (upd H13 t (.tup ((leftS m wsj ss k).map V.str))) t ((leftS m wsj ss k).map V.str) := SqT.of upd_same
        generalize (upd H13 t (.tup ((leftS m wsj ss k).map V.str))) = H14 at gt ht ⊢
        have g1014 := g13.trans gt
        have nshow : (namesD (leftS m wsj ss k)).showable = true := names_show _
        have ll4 : (leftS m wsj ss k).length ≤ 4 := Nat.le_trans (List.length_filter_le _ _) pl4
        have nlen : (namesD (leftS m wsj ss k)).shown.length ≤ sizeLine := by
          have := names_len (ss := leftS m wsj ss k) fun s hs => by
            obtain ⟨np, N, kk, hpg, _⟩ := hD.ex
            have h1 := (List.mem_filter.mp hs).1
            rw [hpg] at h1
            exact pqrs_tiny s (List.mem_of_mem_take h1)
          rw [sizeLine_eq]
          omega
        have ndep : ∀ u : Nat, u + 65 < cLine → u + ((namesD (leftS m wsj ss k)).depth + 1) < cLine := fun u h => by
          rw [dep_names]
          omega
        refine ⟨_, rfl, _, rfl, _, rfl, o, wj, r, m, cs, wsj, ss, rfl, hM8.go (g10.trans g1014), hB, hWj.go g1014, hBj, g1014.sqT hr10, hrun, fun H15 a b as2 n2 g15 haa hK2 hb2 htr => ?_⟩
        rw [left_full hB hBj htr hk] at hb2
        refine r_nil ⟨.ref b, namesD (leftS m wsj ss k), rfl, dp_names hb2, nshow, nlen, ndep _ hu5, ?_⟩
        refine ⟨_, rfl, .ref t, namesD (leftS m wsj ss k), rfl, dp_names (g15.sqT ht), nshow, nlen, ndep _ hu5, .inl ⟨rfl, _, rfl, (if_neg (by simp)).mpr ?_⟩⟩
        have g1015 := g1014.trans g15
        have l15 := g1015.old l _ (fun z => nomatch z) m1
        refine ⟨_, rfl, .inl ⟨rfl, _, SqL.of l15⟩, _, rfl, r_nil ⟨l, ls.map V.ref, .ref t, rfl, rfl, l15, by rw [List.length_map, sizeLine_eq]; omega, ?_⟩⟩
        have gp : Go [l] H15 (upd H15 l (.lst (ls.map V.ref ++ [.ref t]))) := Go.put l15 rfl (List.Mem.head _)
        refine ⟨(g10.trans g1015).mut fl0, ls ++ [t], _, _, _, by rw [List.map_append]; exact upd_same, by simp [m2], fun u x ws e1 e2 => ?_, rfl⟩
        by_cases hu' : u < ls.length
        · rw [List.getElem?_append_left hu'] at e1
          exact gp.sqT (g1015.sqT (m3 u x ws e1 e2))
        · have hj2 : u = ls.length := by
            have := (List.getElem?_eq_some_iff.mp e1).1
            simp at this
            omega
          subst hj2
          have e3 : t = x := by simpa using e1
          subst e3
          rw [m2, hws] at e2
          cases e2
          exact gp.sqT (g15.sqT ht)
      · rintro σ H10 ⟨g10, ls, z12', z14', z17', m1, m2, m3, rfl⟩
        rw [asm] at m2
        obtain ⟨x0, hx0⟩ : ∃ a, ls[0]? = some a := ⟨_, List.getElem?_eq_getElem (by omega)⟩
        obtain ⟨x2, hx2⟩ : ∃ a, ls[2]? = some a := ⟨_, List.getElem?_eq_getElem (by omega)⟩
        have s0 := m3 0 x0 ws0 hx0 (by rw [← hwss]; rfl)
        have s2 := m3 2 x2 ws2 hx2 (by rw [← hwss]; rfl)
        have ll4 : (leftS m ws0 ss k).length ≤ 4 := Nat.le_trans (List.length_filter_le _ _) pl4
        have hll : ((leftS m ws0 ss k).map V.str).length = (leftS m ws0 ss k).length := by simp
        refine .inl (.inr (.inl ⟨_, rfl, ixL (i := 0) m1 (by rw [List.getElem?_map, hx0]; rfl) ⟨x0, rfl, ⟨_, s0⟩, fun D hD' => ?_⟩⟩))
        refine lc_map (walk_tup (xs := (leftS m ws0 ss k).map V.str)) [] (fun _ _ => True) (fun i y _ => ∃ g : Str, (leftS m ws0 ss k)[i]? = some g ∧ y = .bl true) yk_at
          (by omega) hD' (fun _ h => nomatch h) (fun H' g => g.sqT s0) trivial (fun _ _ _ _ _ => trivial) (fun _ _ _ _ _ _ h => h) ?_ ?_
        · rintro u y H13 H14 Fin hu' g13 g14 _ ⟨rfl, hy⟩ fin
          obtain ⟨g, hg⟩ : ∃ g, (leftS m ws0 ss k)[u]? = some g := ⟨_, List.getElem?_eq_getElem (by omega)⟩
          have ey : y = .str g := by
            rw [List.getElem?_map, hg] at hy
            exact (Option.some.inj hy).symm
          subst ey
          refine ⟨rfl, _, rfl, .inl ⟨_, rfl, ixL (i := 2) (g13.old l _ (fun z => nomatch z) m1) (by rw [List.getElem?_map, hx2]; rfl) (r_inT (g13.sqT s2) rfl (flat_strs _) ?_)⟩⟩
          rw [inV_strs, decide_eq_true (left_fewer less g (List.mem_of_getElem? hg))]
          exact fin _ _ (Go.refl _ _) trivial ⟨g, hg, rfl⟩
        · intro H13 ys g13 _ hD13 hl13 hr13
          have ey : ys = ((leftS m ws0 ss k).map fun _ => true).map V.bl := by
            rw [List.map_map]
            exact list_of (by omega) fun i y e => by obtain ⟨s, h, h'⟩ := hr13 i y e; exact ⟨s, h, h'⟩
          subst ey
          refine r_nil (r_all (SqL.of hD13) ?_)
          have e1 : ((leftS m ws0 ss k).map fun _ => true).all id = true := by
            rw [List.all_map]
            exact List.all_eq_true.mpr fun _ _ => rfl
          rw [e1]
          refine ⟨_, rfl, (if_neg (by decide)).mpr ?_⟩
          exact ⟨g128.trans (g10.trans g13).wide, ((hp8.go g10).go g13).up (by omega), _, _, _, _, _, _, _, _, _, _, rfl⟩
    · rintro σ H5 ⟨g5, hp5, z4, z5, z10, z11, z12, z13, z14, z15, z16, z17, rfl⟩
      have hLL5 := g5.old L _ (by simpa using nLp) hLL'
      have hM5 := hM12.goP g5 hp12
      refine .inl (.inl ⟨_, rfl, L, rfl, ⟨_, SqL.of hLL5⟩, ?_⟩)
      refine for_it (walk_list (xs := as.map V.ref)) (fun j σ H' => Go [] H5 H' ∧ ∃ z4 z5 z10 z11 z12 z13 z14 z15 z16 z17 : Option V, σ = [some (.ref p), some (.ref d), some (.ref o), some (.ref L), z4, z5, some (.ref w3), some (.ref w4), some (.ref w0), some (.ref w1), z10, z11, z12, z13, z14, z15, z16, z17])
        ⟨Go.refl _ _, _, _, _, _, _, _, _, _, _, _, rfl⟩ (fun j σ H' _ h => SqL.of (h.1.old L _ (fun z => nomatch z) hLL5)) ?_ ?_
      · rintro i x σ H6 H7 hi ⟨g6, z4, z5, z10, z11, z12, z13, z14, z15, z16, z17, rfl⟩ ⟨rfl, hx⟩
        rw [asm] at hi
        have g56 : Go [p] H12 H7 := g5.trans g6.wide
        obtain ⟨wi, wsi, ha, har, hws, hwg, hWi, hli, hsi, hBi⟩ := wat g56 i hi
        have ex : x = .ref wi := ref_at ha hx
        subst ex
        have hLL7 := g6.old L _ (fun z => nomatch z) hLL5
        have hM7 := hM5.go g6
        have rfew : ∀ fs ∈ wsi, fs.length ≤ 1000 := fun fs hf => Nat.le_trans (hsi fs hf).length_le (by omega)
        refine .inl (.inl ⟨_, rfl, L, rfl, ⟨_, SqL.of hLL7⟩, fun D hD' => ?_⟩)
        refine lc_map (walk_list (xs := as.map V.ref)) [] (fun _ _ => True) (fun j y _ => y = .bl (coarseS wsi (wss.getD j []))) yk_at
          (by omega) hD' (fun _ h => nomatch h) (fun H' g => SqL.of (g.old L _ (fun z => nomatch z) hLL7)) trivial (fun _ _ _ _ _ => trivial) (fun _ _ _ _ _ _ h => h) ?_ ?_
        · rintro j y H8 H9 Fin hj g8 g9 _ ⟨rfl, hy⟩ fin
          rw [asm] at hj
          obtain ⟨wj, wsj, ha', har', hws', hwg', hWj, hlj, hsj, hBj⟩ := wat (g56.trans g8.wide) j hj
          have ey : y = .ref wj := ref_at ha' hy
          subst ey
          refine ⟨rfl, _, rfl, _, rfl, _, rfl, o, wi, wj, m, cs, wsi, wsj, rfl, hM7.go g8, hB, hWi.go g8, hBi, hWj, hBj, fun H' g => fin _ _ g trivial ?_⟩
          rw [hwg']
        intro H8 ys g8 _ hD8 hl8 hr8
        rw [asm] at hl8
        obtain ⟨bs, hbs⟩ : ∃ bs, bs = (List.range 5).map fun j => coarseS wsi (wss.getD j []) := ⟨_, rfl⟩
        have bl5 : bs.length = 5 := by rw [hbs]; simp
        have ey : ys = bs.map V.bl := by
          rw [hbs, List.map_map]
          exact list_of_fn hl8 hr8
        subst ey
        have bshow : (PyData.list (bs.map PyData.bool)).showable = true := bools_show bs
        have blen : (PyData.list (bs.map PyData.bool)).shown.length ≤ sizeLine := by
          have := bools_len bl5
          rw [sizeLine_eq]
          omega
        have bdep : ∀ u : Nat, u + 65 < cLine → u + ((PyData.list (bs.map PyData.bool)).depth + 1) < cLine := fun u h => by
          have : (PyData.list (bs.map PyData.bool)).depth = 1 := by
            show PyData.depthAll _ + 1 = 1
            rw [bools_dep]
          omega
        refine ⟨_, rfl, .ref D, .list (bs.map PyData.bool), rfl, .lst (SqL.of hD8) (bools_at bs), bshow, blen, bdep _ hu5, ?_⟩
        have hLL8 := g8.old L _ (fun z => nomatch z) hLL7
        refine .inl (.inl ⟨_, rfl, L, rfl, ⟨_, SqL.of hLL8⟩, fun D2 hD2 => ?_⟩)
        refine lc_map (walk_list (xs := as.map V.ref)) [] (fun _ _ => True) (fun j y _ => y = .bl (coarseS wsi (wss.getD j []))) yk_at
          (by omega) hD2 (fun _ h => nomatch h) (fun H' g => SqL.of (g.old L _ (fun z => nomatch z) hLL8)) trivial (fun _ _ _ _ _ => trivial) (fun _ _ _ _ _ _ h => h) ?_ ?_
        · rintro j y H9 H10 Fin hj g9 g10 _ ⟨rfl, hy⟩ fin
          rw [asm] at hj
          obtain ⟨wj, wsj, ha', har', hws', hwg', hWj, hlj, hsj, hBj⟩ := wat (g56.trans (g8.trans g9).wide) j hj
          have ey : y = .ref wj := ref_at ha' hy
          subst ey
          refine ⟨rfl, _, rfl, _, rfl, wi, wj, wsi, wsj, rfl, (hWi.go g8).go g9, hWj, by rw [hli, hlj], by omega, rfew, fun H' g => fin _ _ g trivial ?_⟩
          rw [hwg']
        intro H9 ys g9 _ hD9 hl9 hr9
        rw [asm] at hl9
        have ey : ys = bs.map V.bl := by
          rw [hbs, List.map_map]
          exact list_of_fn hl9 hr9
        subst ey
        refine r_nil ⟨.ref D2, .list (bs.map PyData.bool), rfl, .lst (SqL.of hD9) (bools_at bs), bshow, blen, bdep _ hu5, .inl ⟨rfl, _, rfl, (if_neg (by simp)).mpr ?_⟩⟩
        have g79 := g8.trans g9
        have c1 : coarseS wsi wsi = true := coarse_of fun i g h => h
        have c2 : coarseS rs4 wsi = true := coarse_of fun i g h => by rw [e0 i] at h; cases h
        refine ⟨_, rfl, _, rfl, _, rfl, o, wi, wi, m, cs, wsi, wsi, rfl, hM7.go g79, hB, hWi.go g79, hBi, hWi.go g79, hBi, fun H10 g10 => ?_⟩
        rw [c1]
        refine ⟨true, true, rfl, rfl, _, rfl, (if_neg (by decide)).mpr ?_⟩
        obtain ⟨w4', ws4', ha4, _, hws4, _, hW4, hl4, hs4, hB4⟩ := wat (g56.trans (g79.trans g10).wide) 4 (by decide)
        have e4 : w4 = w4' := by rw [← has] at ha4; exact Option.some.inj ha4
        have e5 : rs4 = ws4' := by rw [← hwss] at hws4; exact Option.some.inj hws4
        subst e4 e5
        refine ⟨_, rfl, _, rfl, _, rfl, o, w4, wi, m, cs, rs4, wsi, rfl, (hM7.go g79).go g10, hB, hW4, hB4, (hWi.go g79).go g10, hBi, fun H11 g11 => ?_⟩
        rw [c2]
        refine ⟨true, true, rfl, rfl, _, rfl, (if_neg (by decide)).mpr ?_⟩
        exact ⟨g6.trans ((g79.trans g10).trans g11), _, _, _, _, _, _, _, _, _, _, rfl⟩
      · rintro σ H6 ⟨g6, z4, z5, z10, z11, z12, z13, z14, z15, z16, z17, rfl⟩
        have g56 : Go [p] H12 H6 := g5.trans g6.wide
        obtain ⟨w2', ws2', ha2, har2, hws2, _, hW2, hl2', hs2'', hB2⟩ := wat g56 2 (by decide)
        obtain ⟨w0', ws0', ha0, _, hws0, _, hW0, hl0', hs0'', hB0⟩ := wat g56 0 (by decide)
        have e4 : w2 = w2' := by rw [← has] at ha2; exact Option.some.inj ha2
        have e5 : ws2 = ws2' := by rw [← hwss] at hws2; exact Option.some.inj hws2
        have e6 : w0 = w0' := by rw [← has] at ha0; exact Option.some.inj ha0
        have e7 : ws0 = ws0' := by rw [← hwss] at hws0; exact Option.some.inj hws0
        subst e4 e5 e6 e7
        have c3 : coarseS ws2 ws0 = true := coarse_of less
        have hLL6 := g6.old L _ (fun z => nomatch z) hLL5
        refine ⟨_, rfl, .inl ⟨_, rfl, ixL (i := 2) hLL6 har2 ⟨_, rfl, r_nil ⟨o, w2, w0, m, cs, ws2, ws0, rfl, hM5.go g6, hB, hW2, hB2, hW0, hB0, fun H7 g7 => ?_⟩⟩⟩⟩
        rw [c3]
        exact ⟨true, true, rfl, rfl, q H7 (G12.trans (g56.trans g7.wide)) ((hp5.go g6).go g7 |>.up (by omega))⟩
end
end Sd

namespace Sd
open PySem PySem.Spec PyProof.Rows L2 RZ RT
def spLaw (c : Wd) : Sp := fun vs H Q _ => ∃ (a : Addr) (ns : List Int), vs = [.ref a] ∧ SqL c.K H a (ns.map V.int) ∧ ns.length ≤ 63 ∧ (∀ z ∈ ns, Builtin.Int.intBits z ≤ 1048576) ∧ ∀ H', Q (.bl true) H'
theorem FnG.ofF {c : Wd} {x qual : Str} {st : Stmt} {N ps : List Str} {k : Nat} {sp : Sp} {f : Addr} {fd : FuncData} (F : Fun c.K x qual st f fd) (S : FnScope N ps (defScope st)) (len : ∀ vs H Q E, sp vs H Q E → vs.length = ps.length)
    (h : ∀ (f : Addr) (cdv : Value) (A : Around) (out : List Env) (s : Shared) (H : Hp) (vs : List V) (Q : VK) (E : XK), A.guards = some [] → Room k (A.deeper (envOfC qual (defScope st) s.heap.objs.size f cdv)) → sp vs H Q E →
      ∃ t, PSs (cxN c N qual st f cdv A out s H E).nox (defBody st) t ∧ t { nx := fun _ H' => Q .non H', rt := Q } (start N vs) H) : FnG c.P c.w c.K c.mg c.base (L2.CX c.P c.w) (k + 1) f fd ps sp :=
  Fun.okG F S len fun cdv A out s H vs Q E hG hr q => by
    obtain ⟨t, a, b⟩ := h f cdv A out s H vs Q E hG hr q
    exact ⟨t, a.nox, b⟩
section
variable {c : Wd} {fl : Addr} {fdl : FuncData}
abbrev s_law : Stmt := topS 65
abbrev N_law : List Str := ["_law_script", "_law_k", "_law_pot", "_law_turn"]
abbrev P_law : List Str := ["_law_script"]
theorem sc_law : FnScope N_law P_law (defScope s_law) := ⟨rfl, rfl, rfl, by decide +kernel, rfl, by decide +kernel, by decide +kernel⟩
theorem ok_law (F : Fun c.K "law" "law" s_law fl fdl) (B : Bi c) (D__law_pot_of : Ok c "_law_pot_of" 1 P__law_pot_of (spPotOf c)) (D__law_right : OkG c "_law_right" 8 P__law_right (spRight c)) : FnG c.P c.w c.K c.mg c.base (L2.CX c.P c.w) 9 fl fdl P_law (spLaw c) := by
  refine FnG.ofF F sc_law (fun vs H Q E h => ?_) (fun f cdv A out s H vs Q E hG hr h => ?_)
  · obtain ⟨a, ns, rfl, _⟩ := h
    rfl
  · obtain ⟨a, ns, rfl, hS, hl, hb, q⟩ := h
    have hu1 := hu_of hr
    have hu := hr.units
    refine ⟨_, (pss_cons (ps_for PassesOwn.never rfl (pi_range1 (by rfl) B.range (pa_cons (pe_callB (call_max2 rfl) (by rfl) B.max (by decide +kernel) (pa_cons pe_int (pa_cons (pe_callB (call_min2 rfl) (by rfl) B.min (by decide +kernel) (pa_cons pe_int (pa_cons (pe_callB (call_lenU (K := c.K)) (by rfl) B.len (by decide +kernel) (pa_cons (pv 0) pa_nil)) pa_nil))) pa_nil))) pa_nil)) (pg_name (i := 1) sc_law.nd rfl (by first | exact Or.inl rfl | exact Or.inr rfl)) (pss_cons (ps_set (i := 2) sc_law.nd rfl (by first | exact Or.inl rfl | exact Or.inr rfl) (pe_f D__law_pot_of (hr.mono (by decide)) (by rfl) (pa_cons (pv 0) (pa_cons (pv 1) pa_nil))))
    (pss_one (ps_if (pt_not (pt_val (pe_callB (call_allU (K := c.K) rfl) (by rfl) B.all (by decide +kernel) (pa_cons (pe_lc (own := [("_law_turn", 3)]) rfl sc_law.nd (pi_range1 (by rfl) B.range (pa_cons pe_int pa_nil)) (blkOk_by (N := N_law) (sc := defScope s_law) (by decide +kernel)) (fun _ _ _ _ _ => (pg_name (i := 3) sc_law.nd rfl (by first | exact Or.inl rfl | exact Or.inr rfl))) (fun _ _ _ _ _ => pts_nil) (fun _ _ _ _ _ => (pe_fG D__law_right hG (hr.mono (by decide)) (by rfl) (pa_cons (pv 2) pa_nil)))) pa_nil)))) (pss_one (ps_ret pe_bl)) pss_nil))))
    (pss_one (ps_ret pe_bl))), ?_⟩
    refine ⟨_, rfl, r_nil (r_lenL hS (r_nil ⟨3, _, rfl, r_nil ⟨1, _, rfl, r_nil ⟨_, rfl, ?_⟩⟩⟩))⟩
    generalize hm : (if (if ((List.map V.int ns).length : Int) < 3 then ((List.map V.int ns).length : Int) else 3) > 1 then (if ((List.map V.int ns).length : Int) < 3 then ((List.map V.int ns).length : Int) else 3) else 1) = m
    have hm0 : 1 ≤ m ∧ m ≤ 3 := by
      rw [← hm]
      split <;> split <;> omega
    refine ⟨by omega, by omega, for_range (lo := 0) (n := m.toNat) (fun k σ H' => ∃ o1 o2 o3 : Option V, σ = [some (.ref a), o1, o2, o3] ∧ Go [] H H') ⟨_, _, _, rfl, Go.refl _ _⟩ ?_ ?_⟩
    · rintro k σ H1 hk ⟨o1, o2, o3, rfl, g1⟩
      refine ⟨_, rfl, _, rfl, a, ns, k, by simp, g1.sqL hS, hl, hb, by omega, fun p H2 hp g2 hp2 => ?_⟩
      refine ⟨3, rfl, by decide, by decide, fun D hD => ?_⟩
      refine lc_map (walk_range (lo := 0) (n := 3)) [p] (fun i H' => Pot H' p (700 * i)) (fun i y _ => y = .bl true) yk_fn (by decide) hD (fun b hb => ?_) (fun _ _ => trivial) hp2 (fun i H' H'' hz hk' => ?_) (fun _ _ _ _ _ _ h => h) ?_ ?_
      · have : b = p := List.mem_singleton.mp hb
        subst this
        obtain ⟨_, _, _, e, _⟩ := hp2
        rw [e]
        exact fun z => nomatch z
      · obtain ⟨a1, a2, a3, e, r⟩ := hz
        exact ⟨a1, a2, a3, by rw [hk' p (List.mem_singleton.mpr rfl)]; exact e, r⟩
      · rintro i y H3 H4 Fin hi g3 g4 hz ⟨rfl, rfl⟩ fin
        refine ⟨rfl, _, rfl, p, 700 * i, rfl, hz, by omega, fun H5 g5 hp5 => fin _ _ g5 ?_ rfl⟩
        exact hp5
      · intro H3 ys g3 _ hD3 hl3 hr3
        have ey : ys = ((List.range 3).map fun _ => true).map V.bl := by
          rw [List.map_map]
          exact list_of_fn hl3 hr3
        subst ey
        refine r_nil (r_all (SqL.of hD3) ⟨_, rfl, (if_neg (by decide)).mpr ?_⟩)
        refine ⟨_, _, _, rfl, g1.trans ⟨fun b o _ e => ?_, fun b o hf e => g3.fix b o hf (g2.fix b o hf e)⟩⟩
        refine g3.old b o (fun z => ?_) (g2.old b o (fun z => nomatch z) e)
        rw [List.mem_singleton.mp z, hp] at e
        cases e
    · rintro σ H1 ⟨o1, o2, o3, rfl, g1⟩
      exact q H1
end
end Sd

/-! S75a: an error class of the text called with keywords -/
namespace PySem
namespace S75
open PySem.HandSPX PySem.Calls PySem.W PyProof.Rows
section
open Builtin Builtin.ObjectAttr
/-- C(.., k = v): a class over ValueError whose __init__ is a def of the text. Its new exception lies behind the tuple of the values given by place; __init__ gets all of them -/
theorem made_kw {prog : Program} {w : World} {A : Around} {R : Result → Shared → Prop} {K : Frag} {C ini : Addr} {given : List Value} {byName : List (Str × Value)} {s : Shared}
    (T : L2.OexC K C) (X : K.In s.heap) (own : findIn K (.ref C) "__init__" = some (some (.ref ini))) (fn : typeIn K (.ref ini) = some (.type "function")) (few : given.length ≤ sizeLine)
    (go : codeAny (model prog w) (A.under (.builtin "type.__call__" ⟨.ref C :: given, byName⟩)) (.call (.ref ini) ⟨.ref (s.heap.objs.size + 1) :: given, byName⟩) (InitBack (s.heap.objs.size + 1) R)
      { s with heap := (s.heap.push (kdv_tup given)).push (HandSPX.excO C s.heap.objs.size) }) : codeAny (model prog w) A (.call (.ref C) ⟨given, byName⟩) R s := by
  rcases s with ⟨hp, gn, dr, tk, sys⟩
  dsimp only at X go
  rcases T.cls with ⟨_, _, _, _, up, _, _, _, _, _, _, _, _, _, _, atK, tail⟩
  have oC : hp.get? C = some _ := X _ _ atK
  have V := PySem.F.excBase_ValueError
  have above : ∀ Y : String, (Value.ref C :: up).contains (.type Y) = HandSPX.veTail.contains (.type Y) := fun Y => by
    rw [List.contains_cons, HandSPX.refsVE_contains Y up tail]
    rfl
  have isV := (above "ValueError").trans V.hasB
  have notA := (above "AttributeError").trans V.noAttr
  have notN := (above "NameError").trans V.noName
  have itself : (Value.ref C :: up).contains (.ref C) = true := by simp
  have lookI : Looks (model prog w) hp (typeLookup (.ref C) "__init__") (some (.ref ini)) := looks_findIn X own
  have bindI : ∀ me, Looks (model prog w) hp (bindSpecial (.ref ini) me) (.ref ini, [me]) := fun me => bind_fn X me fn
  have stays : ∀ b o, hp.get? b = some o → ((hp.push (kdv_tup given)).push (HandSPX.excO C hp.objs.size)).get? b = some o :=
    fun b o e => Heap.get?_push_of_some _ (Heap.get?_push_of_some _ e)
  have newC := stays _ _ oC
  have newE : ((hp.push (kdv_tup given)).push (HandSPX.excO C hp.objs.size)).get? (hp.objs.size + 1) = some (HandSPX.excO C hp.objs.size) := by heap_get
  have _f1 := tc_lookup
  have _f2 := tc_bind (.ref C)
  have _ty : (⟨hp, gn, dr, tk, sys⟩ : Shared).TypeIs (.ref C) "type" := ⟨_, oC, rfl⟩
  have _st := V.noStar
  have _en := V.ends
  -- the birth: nothing is asked of the keywords
  have birth : ∀ {A' : Around} {R' : Result → Shared → Prop}, R' (.ok (.ret (.ref (hp.objs.size + 1)))) ⟨(hp.push (kdv_tup given)).push (excO C hp.objs.size), gn, dr, tk, sys⟩ →
      codeAny (model prog w) A' (.builtin "ValueError.__new__" ⟨.ref C :: given, byName⟩) R' ⟨hp, gn, dr, tk, sys⟩ := by
    intro A' R' q
    apply codeAny_builtinAt V.entry
    unfold Builtin.«BaseException.__new__»
    apply wpAt_bind
    change wpAt _ _ _ (stack >>= _) _ _ _
    refine wpAt_bind (wpAt_stack fun _ _ => ?_)
    apply wpAt_of_wpAny
    wp_walk
    apply wpAt_of_wpAny
    rw [V.owner]
    repeat first | (with_reducible refine wpAny_madeHere_exc V.canon oC ?_) | (with_reducible refine wpAny_loadPart_at oC ?_) | (with_reducible refine wpAny_isSubtype_exc oC ?_; first | rw [isV] | rw [notA] | rw [notN]) | wp_step
    change R' _ _
    rw [Heap.size_push]
    exact q
  -- the call of the class
  apply codeAny_of_tree
  change wpAny _ _ (callAny (.ref C) _) _ _ _
  repeat (any_goals first | assumption | (with_reducible refine wpAny_loadPart_at oC ?_) | wp_step)
  refine ⟨rfl, codeAny_call_builtin_at (Code.quiet_builtin _ (by decide +kernel)) entry_typeCall (wpAny_check_type_call_sub oC ?_)⟩
  repeat first | (with_reducible refine wpAny_loadPart_at oC ?_) | (with_reducible refine wpAny_madeBy_exc oC ?_) | wp_step
  refine codeAny_call_builtin_code (Code.quiet_builtin _ V.quiet) ?_
  simp only [checkBuiltinCall, V.newKind, V.newSplit, V.newRow]
  repeat first | refine wpAny_loadPart_at oC ?_ | (refine wpAny_isSubtype_exc oC ?_; rw [isV]) | refine wpAny_staticBase_exc oC ?_ | refine wpAny_madeBy_exc oC ?_ | simp only [bne_self_eq_false, Bool.false_eq_true, if_false] | wp_step
  apply birth
  change wpAny _ _ _ _ _ _
  unfold isInstance
  repeat first | (with_reducible refine wpAny_loadPart_at newE ?_) | (with_reducible refine wpAny_isSubtype_exc newC ?_; rw [itself]) | wp_step
  change wpAny _ _ (typeLookup (.ref C) _) _ _ _
  apply (lookI.keeps stays).at
  apply wpAny_holding
  apply wpAny_bind
  apply ((bindI (.ref (hp.objs.size + 1))).keeps stays).at
  apply wpAny_bind
  apply wpAny_call
  refine codeAny_mono go fun r s' z => ?_
  match r, z with
  | .error _, z => exact z
  | .ok .next, z => exact z.elim
  | .ok .brk, z => exact z.elim
  | .ok .cont, z => exact z.elim
  | .ok (.ret _), ⟨e, z⟩ =>
    subst e
    first
      | exact wpAny_pure (wpAny_pure z)
      | (wp_walk; exact z)
end
end S75
end PySem

/-! S75b: isinstance of an exception that has its dict; its field read -/
namespace PySem.S75
open PySem PySem.Spec PySem.Calls PySem.W PyProof.Rows
section
variable {prog : Program} {w : World} {K : Frag} {x D : Addr} {ox : Obj} {od : Option Obj}
/-- e.__class__ of an exception with a dict of its own: the dict is not asked, the slot of object goes ahead -/
theorem cls_read (T : L2.ExcC K D) {A : Around} {E : Value → Shared → Prop} {s : Shared} {Q : Option Value → Shared → Prop} (X : K.In s.heap) (I : InstAt s.heap x ox D od) (q : Q (some (.ref D)) { s with toks := s.toks + 1 }) :
    wpAny (model prog w) A (getAttr? (.ref x) "__class__") Q E s := by
  obtain ⟨hg, hk, hs, hd, ha, hn, ht, hm⟩ := T
  have slot : findObj K D od "__class__" = some (.bind (.builtin "getset_descriptor.__get__") (.builtin "object.__class__")) := by
    obtain ⟨cd, hc, _⟩ := any_some hd
    unfold findObj
    simp [hc, ha, hn, ht]
  rcases s with ⟨hp, gn, dr, tk, sys⟩
  dsimp only at X I q
  have tyL := I.type (M := model prog w)
  have gaL := looks_findIn (M := model prog w) X hg
  have gtL := looks_findIn (M := model prog w) X hk
  have slL := looks_find (M := model prog w) X I slot
  have exL : Looks (model prog w) hp (isInstance (.ref x) (.type "BaseException")) true := tyL.andThen (looks_subIn X hs)
  have onH : onTheHeap (Value.ref D) = true := rfl
  have notObj : (Value.builtin "BaseException.__getattribute__" == Value.builtin "object.__getattribute__") = false := by decide +kernel
  unfold getAttr? getAttrBy? getAttrBy
  apply wpAny_bind
  apply wpAny_mkText
  apply wpAny_bind
  apply wpAny_attempt
  apply wpAny_holding
  apply wpAny_bind
  apply tyL.at
  apply wpAny_bind
  apply gaL.at
  change wpAny _ _ (ite ((onTheHeap (Value.ref D) && _) = true) _ _) _ _ _
  rw [notObj, Bool.and_false, if_neg Bool.false_ne_true]
  unfold getAttrByItsOwn hookBefore
  apply wpAny_bind
  rw [if_pos onH]
  apply gtL.at
  apply wpAny_bind
  apply wpAny_attempt
  apply wpAny_holding
  unfold callGetattribute
  rw [if_neg (by simp)]
  unfold boundAndCalled
  rw [PySem.F.excAttr_ValueError.ga.bind (.ref x)]
  apply wpAny_bind
  apply wpAny_pure
  change wpAny _ _ (call (.builtin "BaseException.__getattribute__") [.ref x, .str "__class__" tk]) _ _ _
  apply wpAny_call
  refine codeAny_call_builtin PySem.F.excAttr_ValueError.ga.plain PySem.F.entry_bexc_ga
    (@check_slot (model prog w) _ _ ⟨hp, gn, dr, tk + 1, sys⟩ _ "BaseException" "__getattribute__" (.ref x) [.str "__class__" tk] [] _ (by decide +kernel) (by decide +kernel) exL (PySem.F.args_bexc_ga (.ref x) (.str "__class__" tk)) ?_)
  unfold Builtin.«object.__getattribute__»
  apply wpAny_bind
  refine wpAny_of_eq (a := ((Value.ref x : Value), [Value.str "__class__" tk])) (by first | rfl | (simp only [slotArgs]; rfl)) ?_
  apply wpAny_bind
  apply wpAny_pure
  apply wpAny_bind
  apply tyL.at
  apply wpAny_bind
  apply slL.at
  change wpAny _ _ (holding _ (call (.builtin "getset_descriptor.__get__") [.builtin "object.__class__", .ref x, .ref D]) >>= ret) _ _ _
  apply wpAny_bind
  apply wpAny_holding
  apply wpAny_call
  refine class_get (s := ⟨hp, gn, dr, tk + 1, sys⟩) (ox := ox) (od := od) X I hm (wpAny_pure ?_)
  change wpAny _ _ (handedOut (.ref D)) _ _ _
  rw [handedOut_of (v := .ref D) rfl]
  repeat first | exact q | apply wpAny_pure | apply wpAny_bind
/-- what isinstance asks of such an exception -/
theorem kit_err (T : L2.ExcC K D) : KitX K (.ref x) (.ref D) (fun h => InstAt h x ox D od) := by
  have cls : ∃ c d cd sl, K.lookup D = some ⟨c, d, .cls cd, sl⟩ := by
    obtain ⟨cd, e, _⟩ := any_some T.hd
    unfold clsIn at e
    split at e
    · rename_i c d cd' sl ho
      exact ⟨c, d, cd', sl, ho⟩
    · cases e
  obtain ⟨c, d, cd, sl, ho⟩ := cls
  refine ⟨fun _ _ _ I => I.type, fun _ _ X _ => ?_, fun h tp dd its n sl' X e => ?_, fun X I k => cls_read T X I k⟩
  · intro A Q E s kp q
    unfold isType loadHead
    apply wpAny_bind
    exact wpAny_loadPart (kp _ _ (X _ _ ho)) (wpAny_pure q)
  · cases z : (Value.ref D == Value.ref tp) with
    | false => rfl
    | true =>
      cases Value.ref.inj (beq_iff_eq.mp z)
      cases (X _ _ ho).symm.trans e
end
end PySem.S75

namespace Sd
open PySem PySem.Spec PyProof.Rows L2
/-- isinstance(e, c), e an exception made here -/
def rIsX (K : PySem.W.Frag) : List V → Hp → VK → Prop := fun xs H Q => ∃ (a D dx : Addr) (fs : List (Str × V)) (c : V) (u : Value) (b : Bool), xs = [.ref a, c] ∧ ExcC K D ∧ ClsV c u ∧ H a = some (exo a D (some dx)) ∧ H dx = some (exd dx fs) ∧ PySem.W.kitOne K (.ref D) u = some b ∧ Q (.bl b) H
/-- an exception made here, as the heap bears it -/
theorem exo_inst {X : Cx} {pins : List (Addr × Obj)} {σ : L2.St} {H : Hp} {s : Shared} {a D dx : Addr} {fs : List (Str × V)} (I : Inv X pins σ H s) (ha : H a = some (exo a D (some dx))) (hd : H dx = some (exd dx fs)) :
    ∃ (t1 : Addr) (od : Obj) (mA : Str → Option Value), PySem.W.InstAt s.heap a { cls := .ref D, dict := some dx, data := .fields #[.ref t1, .none, .none, .none, .bool false, .none] } D (some od) ∧ s.heap.get? dx = some od ∧ s.heap.Ns1 dx mA ∧ ∀ f, RelO (fs.lookup f) (mA f) := by
  obtain ⟨mA, hns, rel⟩ := exd_at I.hok hd
  obtain ⟨od, es, ep, h1, h2⟩ := id hns
  exact (exo_at I.hok ha).elim fun t1 ho => ⟨t1, od, mA, ⟨ho, rfl, rfl, h1⟩, h1, hns, rel⟩
theorem call_isX {X : Cx} : CallR X (.builtin "isinstance") (rIsX X.K) := by
  rintro pins s σ H xs us Q I r ⟨a, D, dx, fs, c, u, b, rfl, T, k, ha, hd, e, q⟩
  obtain ⟨u1, u2, rfl, r1, r2⟩ := vals2 r
  cases r1
  cases k.eq r2
  obtain ⟨t1, od, mA, J, _⟩ := exo_inst I ha hd
  exact PySem.W.kia_one (PySem.S75.kit_err T) I.kIn J e (fun z => nomatch z) fun tk => ⟨.bl b, H, I.kept (t' := tk) fun _ _ z => z, rfl, q⟩
/-- e.f, e an exception made here -/
def tXv (K : PySem.W.Frag) (f : Str) (te : TE) : TE := fun σ H Q => te σ H fun x H1 => ∃ (a D dx : Addr) (fs : List (Str × V)) (v : V), x = .ref a ∧ XfC K D ∧ PySem.W.findIn K (.ref D) f = some none ∧ H1 a = some (exo a D (some dx)) ∧ H1 dx = some (exd dx fs) ∧ fs.lookup f = some v ∧ Q v H1
theorem pe_xv {X : Cx} {K : PySem.W.Frag} {e : Expr} {te : TE} {pos : Pos} {n : Str} (he : PE X e te) (hK : X.K = K := by rfl) (hb : attributeBase e n X.env (eval e X.env) = eval e X.env := by rfl) :
    PE X (.Attribute e n pos) (tXv K n te) := by
  subst hK
  constructor
  intro pins s σ H Q I h
  refine attr_of hb (thn (he.run pins s σ H _ I h) ?_)
  rintro u s1 ⟨x, H1, I1, rx, a, D, dx, fs, v, rfl, T, hno, ha, hd, l, q⟩
  cases rx
  obtain ⟨t1, od, mA, J, hod, hns, rel⟩ := exo_inst I1 ha hd
  obtain ⟨od', ho', hl⟩ := lookIn_ns hns
  cases hod.symm.trans ho'
  obtain ⟨u, hu, ru⟩ := RelO.some_of (v := v) (o := mA n) (l ▸ rel n)
  exact HandSPX.exc_get I1.kIn J T.ga T.gg T.exC (PySem.W.findObj_own T.hdC hno rfl (by rw [hl, hu])) (handed_of ru) ⟨v, H1, I1.tok _, ru, q⟩
end Sd

/-! S75c: an own exception made by a call, kept as a value -/
namespace Sd
open PySem PySem.Spec PyProof.Rows L2
/-- C(e, .., k = v, ..): the exception is new and tracked -/
def tXmk (C : Addr) (sp : Sp) (ta tk : TA) : TE := fun σ H Q => ta σ H fun vs H1 => tk σ H1 fun zs H2 => vs.length ≤ 1000 ∧ ∀ a, H2 a = none → sp (.ref a :: (vs ++ zs)) (upd H2 a (exo a C none)) (fun v H3 => v = .non ∧ Q (.ref a) H3) fun _ _ _ => False
section
variable {X : Cx} {CX : CXT} {k n : Nat} {fI C : Addr} {fd : FuncData} {ps ks : List Str} {sp : Sp} {x : Str} {p pos : Pos} {e : Expr} {es : List Expr} {kws : List Keyword} {t tk : TA}
/-- the class called with values us and keywords ks = ws: the new exception is tracked while its __init__ runs -/
theorem run_oex {pins : List (Addr × Obj)} {σ : L2.St} {H : Hp} {s : Shared} {Q : VK} {us ws : List Value} {vs zs : List V} (T : OexC X.K C) (iC : PySem.W.findIn X.K (.ref C) "__init__" = some (some (.ref fI))) (tI : PySem.W.typeIn X.K (.ref fI) = some (.type "function"))
    (I1 : FnOk X.prog X.w X.K X.mg X.base CX k fI fd ps sp) (hr : Room (k + 1) X.A) (hb : ∀ (s : Shared) (a : Addr), BindsTo s fd ⟨.ref a :: us, ks.zip ws⟩ (ps.zip (.ref a :: (us ++ ws)))) (hx : Passes CX X (fun _ _ _ => False)) (I : Inv X pins σ H s) (r : Vals vs us) (rz : Vals zs ws) (hz : vs.length ≤ 1000)
    (h : ∀ a, H a = none → sp (.ref a :: (vs ++ zs)) (upd H a (exo a C none)) (fun v H3 => v = .non ∧ Q (.ref a) H3) fun _ _ _ => False) :
    wpAny (model X.prog X.w) X.A (call (.ref C) us (ks.zip ws)) (EP X pins σ Q) X.xe s := by
  -- where it will stand, and the heap with it
  generalize ea : s.heap.objs.size + 1 = a
  have above : s.heap.objs.size ≤ a := by omega
  generalize eh : (s.heap.push (PySem.W.kdv_tup us)).push (PySem.HandSPX.excO C s.heap.objs.size) = h2
  have there : h2.get? a = some (PySem.HandSPX.excO C s.heap.objs.size) := by
    subst eh ea
    heap_get
  have more : ∀ b o, s.heap.get? b = some o → h2.get? b = some o := by
    subst eh
    exact fun b o e => Heap.get?_push_of_some _ (Heap.get?_push_of_some _ e)
  have J : Inv X pins σ (upd H a (exo a C none)) { s with heap := h2 } := I.laid (t' := s.toks) more above (exo_ok there)
  have few : us.length ≤ sizeLine := by
    have := r.length
    rw [sizeLine_eq]
    omega
  have told := h a (I.hok.fresh above)
  apply wpAny_call
  apply PySem.S75.made_kw T I.kIn iC tI few
  rw [ea, eh]
  refine codeAny_mono (I1.run _ X.stack _ _ ⟨.ref a :: us, ks.zip ws⟩ (.ref a :: (us ++ ws)) (.ref a :: (vs ++ zs)) _ (fun _ _ _ => False) (hr.make C us (ks.zip ws)) (J.env0.make C us (ks.zip ws)) (hb _ _) (.cons rfl (r.append rz)) told) ?_
  intro z s' q
  match z, q with
  | .error e, q => exact hx pins σ _ _ e s' J q
  | .ok .next, q => exact q.elim
  | .ok .brk, q => exact q.elim
  | .ok .cont, q => exact q.elim
  | .ok (.ret u), q =>
    obtain ⟨v, H3, J3, rv, rfl, q3⟩ := J.after q
    exact ⟨rv, .ref a, H3, J3, rfl, q3⟩
/-- C(e, ..) -/
theorem pe_oex (T : OexC X.K C) (iC : PySem.W.findIn X.K (.ref C) "__init__" = some (some (.ref fI))) (tI : PySem.W.typeIn X.K (.ref fI) = some (.type "function"))
    (F1 : FnOk X.prog X.w X.K X.mg X.base CX k fI fd ps sp) (hr : Room (k + 1) X.A) (hb : ∀ (s : Shared) (a : Addr) (us : List Value), us.length + 1 = ps.length → BindsTo s fd ⟨.ref a :: us, []⟩ (ps.zip (.ref a :: us))) (hx : Passes CX X (fun _ _ _ => False)) (hg : Gl X x) (hm : X.mg x = some (.ref C)) (ha : PA X (e :: es) t)
    (hl : (e :: es).length + 1 = ps.length) (hdb : (x == ("__debug__" : Str)) = false := by decide) (he : starEach (e :: es) X.env = (false, eval e X.env) :: starEach es X.env := by rfl) (hpl : (backTo pos (starEach es X.env)).any (·.1) = false := by rfl) :
    PE X (.Call (.Name x p) (e :: es) [] pos) (fun σ H Q => t σ H fun vs H1 => vs.length + 1 = ps.length ∧ tXmk C sp (fun _ H Q => Q vs H) tNil σ H1 Q) := by
  refine ⟨fun pins s σ H Q I h => ?_⟩
  refine wpAny_Call_Name_kw (ld_glob I hg hm ?_ hdb)
  refine PySem.W.callWith_K (h₀ := X.base) I.ok.mod.kin T.kC (thn (ha.run pos pins s σ H _ I h) fun us s1 ⟨vs, H1, I1, r1, e1, hz, q1⟩ => ⟨I1.kIn, ?_⟩) he hpl
  exact run_oex (us := us) (ws := []) (vs := vs) (zs := []) (ks := []) T iC tI F1 hr (fun s a => by
    have := hb s a us (by rw [← r1.length]; exact e1)
    rw [List.append_nil]
    exact this) hx I1 r1 .nil hz q1
/-- C(k = v) -/
theorem pe_oexK (T : OexC X.K C) (iC : PySem.W.findIn X.K (.ref C) "__init__" = some (some (.ref fI))) (tI : PySem.W.typeIn X.K (.ref fI) = some (.type "function"))
    (F1 : FnOk X.prog X.w X.K X.mg X.base CX k fI fd ps sp) (hr : Room (k + 1) X.A) (hb : ∀ (s : Shared) (a : Addr) (ws : List Value), ws.length = ks.length → BindsTo s fd ⟨[.ref a], ks.zip ws⟩ (ps.zip (.ref a :: ws))) (hx : Passes CX X (fun _ _ _ => False)) (hg : Gl X x) (hm : X.mg x = some (.ref C)) (hkw : PK X kws tk)
    (hall : (backToKw pos (keywordEach kws X.env)).all (·.1.isSome) = true := by rfl) (hks : (backToKw pos (keywordEach kws X.env)).filterMap (·.1) = ks := by rfl) (hdb : (x == ("__debug__" : Str)) = false := by decide)
    (hpl : ((backTo pos (starEach [] X.env)).any (·.1) || (backToKw pos (keywordEach kws X.env)).any (·.1.isNone)) = false := by rfl) :
    PE X (.Call (.Name x p) [] kws pos) (fun σ H Q => tk σ H fun zs H1 => zs.length = ks.length ∧ tXmk C sp tNil (fun _ H Q => Q zs H) σ H1 Q) := by
  refine ⟨fun pins s σ H Q I h => ?_⟩
  refine wpAny_Call_Name_kw (ld_glob I hg hm ?_ hdb)
  refine PySem.W.callWith_KW0 (h₀ := X.base) I.ok.mod.kin T.kC hall ?_ hpl
  refine thn (hkw.run pos pins s σ H _ I h) fun ws s2 ⟨zs, H2, I2, rz, l2, hz, q2⟩ => ⟨I2.kIn, ?_⟩
  rw [hks]
  exact run_oex (us := []) (vs := []) T iC tI F1 hr (fun s a => hb s a ws (by rw [← rz.length]; exact l2)) hx I2 .nil rz (by simp) q2
end
/-- __init__(self, value): self.value = value -/
def spInit (K : PySem.W.Frag) : Sp := fun vs H Q _ => ∃ (a C : Addr) (v : V), vs = [.ref a, v] ∧ OexC K C ∧ PySem.W.findIn K (.ref C) "value" = some none ∧ H a = some (exo a C none) ∧
  ∀ dx, H dx = none → dx ≠ a → Q .non (upd (upd H dx (exd dx [("value", v)])) a (exo a C (some dx)))
end Sd

/-! S75d: lambdas that are kept and called later -/
namespace Sd
open PySem PySem.Spec PyProof.Rows L2 LamX

/-- a lambda's function object at f, its code object at c -/
def LamO (f : Addr) (q : Str) (params : Arguments) (body : Expr) (scope : Scope) (c : Addr) : HO := .ext fun h => ∃ pm ctv, h.get? f = some (PySem.W.kla_obj "<lambda>" q params body scope [] pm c ctv)
theorem lamO_ne {f c : Addr} {q : Str} {params : Arguments} {body : Expr} {scope : Scope} (ps : Array Value) : LamO f q params body scope c ≠ .tbl ps := fun z => by
  unfold LamO at z
  cases z
theorem lamO_ok {P : Program} {w : World} {H : Hp} {h : Heap} {f c : Addr} {q : Str} {params : Arguments} {body : Expr} {scope : Scope} {pm ctv : Value} (e : h.get? f = some (PySem.W.kla_obj "<lambda>" q params body scope [] pm c ctv)) : ObjOk P w H h f (LamO f q params body scope c) :=
  ⟨⟨pm, ctv, e⟩, ⟨_, e⟩, fun h1 h2 ⟨pm, ctv, z⟩ k => ⟨pm, ctv, k _ z⟩⟩
theorem lamO_at {P : Program} {w : World} {H : Hp} {h : Heap} {f c : Addr} {q : Str} {params : Arguments} {body : Expr} {scope : Scope} (hok : HOk P w H h) (e : H f = some (LamO f q params body scope c)) : ∃ pm ctv, h.get? f = some (PySem.W.kla_obj "<lambda>" q params body scope [] pm c ctv) :=
  (show ObjOk P w H h f (.ext fun h => ∃ pm ctv, h.get? f = some (PySem.W.kla_obj "<lambda>" q params body scope [] pm c ctv)) from hok f _ e).1
theorem codeO_at {P : Program} {w : World} {H : Hp} {h : Heap} {c : Addr} {q : Str} (ok : HOk P w H h) (e : H c = some (CodeO c q)) : h.CodeRec (.ref c) q := by
  have z : ObjOk P w H h c (.ext _) := ok c _ e
  rcases z.1 with ⟨o, us, t, h1, h2, h3⟩
  exact ⟨c, o, us, t, rfl, h1, h2, h3⟩

/-- the lambda: a new function object; its code object is new or found in the table at P -/
def tLam (P : Addr) (q : Str) (params : Arguments) (body : Expr) (scope : Scope) : TE := fun σ H Q => TabS H P q ∧ ∀ (f c : Addr) (H1 : Hp), H f = none → Go [P] H H1 → TabS H1 P q → H1 f = some (LamO f q params body scope c) → H1 c = some (CodeO c q) → Q (.ref f) H1
section
variable {X : Cx}
theorem pe_lam {c P : Addr} {q : Str} {params : Arguments} {body : Expr} {scope : Scope} {pos : Pos} (TB : TabB X.base X.mg c P) (hcode : X.env.code = .ref c) (hq : X.env.qual ++ "<lambda>" = q) (hdef : defaultsOf params X.env = ([], []))
    (hfree : ∀ y ∈ scope.names, y.2 = .free → ∃ c, X.env.cells.lookup y.1 = some c) (hcl : cloFrom X.env.cells scope.names [] = []) : PE X (.Lambda params body scope pos) (tLam P q params body scope) := by
  subst hq
  constructor
  rintro pins s σ H Q I ⟨tab, k⟩
  obtain ⟨rows, atP, tri, known⟩ := id tab
  have inP : s.heap.get? P = some (PySem.W.tabObj rows) := I.hok P _ atP
  have blt := TB.bm.keeps I.bk
  have cod := TB.code.keeps I.bk
  have glb := I.mod.glob.keeps I.bk
  apply PySem.W.kla_eval hdef
  cases found : codeAmong pos rows.toList with
  | some v =>
    -- its code object is there already: the function object alone is new
    rcases known pos v found with ⟨d, rfl, hd⟩
    refine PySem.W.kla_makeFunctionHit (closure_ok hfree) I.ok.glob glb hcode cod inP tri found blt fun ct g tk old sz => ?_
    rw [hcl]
    have none_ : H g.objs.size = none := I.hok.fresh sz
    have at_ : (g.push (PySem.W.kla_obj "<lambda>" (X.env.qual ++ "<lambda>") params body scope [] ((X.mg "__name__").getD .none) d ct)).get? g.objs.size = some _ := Heap.get?_push_size _ rfl
    have J := I.laid (t' := tk) (o := LamO g.objs.size (X.env.qual ++ "<lambda>") params body scope d) (fun b u e => Heap.get?_push_of_some _ (old b u e)) sz (lamO_ok at_)
    have same : ∀ b u, H b = some u → upd H g.objs.size (LamO g.objs.size (X.env.qual ++ "<lambda>") params body scope d) b = some u := fun b u e => (upd_ne (ne_of_none e none_)).trans e
    exact ⟨.ref g.objs.size, _, J, rfl, k _ d _ none_ ⟨fun b u _ e => same b u e, fun b u _ e => same b u e⟩ (tab.ext same) upd_same (same _ _ hd)⟩
  | none =>
    -- a code object is made and written into the table, then the function object
    refine PySem.W.kla_makeFunction (closure_ok hfree) I.ok.glob glb hcode cod inP tri found TB.gP blt fun d ct g tk but lo hi rec table => ?_
    rw [hcl]
    rcases rec with ⟨_, oc, us, t, e, hoc, hus, hname⟩
    cases e
    generalize er : rows ++ #[rawInt pos.line, rawInt pos.col, .ref d] = rows2 at table
    have listed : rows2.toList = rows.toList ++ [rawInt pos.line, rawInt pos.col, .ref d] := by
      rw [← er]
      simp
    have noneD : H d = none := I.hok.fresh lo
    have noneF : H g.objs.size = none := I.hok.fresh (by omega)
    have J0 := inv_table (t' := tk) (q := X.env.qual ++ "<lambda>") I atP but (er ▸ table) lo ⟨oc, us, t, hoc, hus, hname⟩
    rw [er] at J0
    have at_ : (g.push (PySem.W.kla_obj "<lambda>" (X.env.qual ++ "<lambda>") params body scope [] ((X.mg "__name__").getD .none) d ct)).get? g.objs.size = some _ := Heap.get?_push_size _ rfl
    have J := J0.laid (t' := tk) (o := LamO g.objs.size (X.env.qual ++ "<lambda>") params body scope d) (fun b u e => Heap.get?_push_of_some _ e) (Nat.le_refl _) (lamO_ok at_)
    have f1 : P ≠ d := ne_of_none atP noneD
    have f2 : P ≠ g.objs.size := ne_of_none atP noneF
    have f3 : d ≠ g.objs.size := Nat.ne_of_lt hi
    generalize eh : upd (upd (upd H P (.tbl rows2)) d (CodeO d (X.env.qual ++ "<lambda>"))) g.objs.size (LamO g.objs.size (X.env.qual ++ "<lambda>") params body scope d) = H2 at J
    have inD : H2 d = some (CodeO d (X.env.qual ++ "<lambda>")) := by rw [← eh, upd_ne f3, upd_same]
    have inT : H2 P = some (.tbl rows2) := by rw [← eh, upd_ne f2, upd_ne f1, upd_same]
    have inF : H2 g.objs.size = some (LamO g.objs.size (X.env.qual ++ "<lambda>") params body scope d) := by rw [← eh, upd_same]
    have same : ∀ b u, b ≠ P → H b = some u → H2 b = some u := fun b u n e => by
      rw [← eh, upd_ne (ne_of_none e noneF), upd_ne (ne_of_none e noneD), upd_ne n]
      exact e
    have offP : ∀ {b : Addr} {u : HO}, H b = some u → (∀ r, u ≠ .tbl r) → b ≠ P := fun e n z => n rows (Option.some.inj (e.symm.trans (z ▸ atP)))
    have tab2 : TabS H2 P (X.env.qual ++ "<lambda>") := by
      refine ⟨rows2, inT, by rw [listed]; exact PySem.TriplesOk_snoc _ _ _ _ tri, fun p v hv => ?_⟩
      rw [listed] at hv
      rcases among_app _ tri hv with y | rfl
      · rcases known p v y with ⟨b, rfl, hb⟩
        exact ⟨b, rfl, same _ _ (offP hb codeO_ne) hb⟩
      · exact ⟨d, rfl, inD⟩
    refine ⟨.ref g.objs.size, H2, J, rfl, k _ d H2 noneF ⟨fun b u hb e => same b u (by simpa using hb) e, fun b u hf e => same b u (offP e fun r z => ?_) e⟩ tab2 inF inD⟩
    rw [z] at hf
    cases hf
end

/-- what a lambda promises when it is called -/
def LamOk (P : Program) (w : World) (K : PySem.W.Frag) (mg : Str → Option Value) (base : Heap) (cx : CXT) (k : Nat) (q : Str) (params : Arguments) (body : Expr) (scope : Scope) (sp : Sp) : Prop :=
  ∀ (A : Around) (out : List Env) (s : Shared) (H : Hp) (f c : Addr) (pm ctv : Value) (us : List Value) (vs : List V) (Q : VK) (E : XK), Room k A → Env0 P w K mg base A out s H → s.heap.get? f = some (PySem.W.kla_obj "<lambda>" q params body scope [] pm c ctv) →
    s.heap.CodeRec (.ref c) q → Vals vs us → sp vs H Q E → codeAny (model P w) A (.call (.ref f) ⟨us, []⟩) (CR cx out P w H s Q E) s
theorem lam_of {cx : CXT} {P : Program} {w : World} {K : PySem.W.Frag} {mg : Str → Option Value} {base : Heap} {k : Nat} {q : Str} {params : Arguments} {body : Expr} {scope : Scope} {N ps : List Str} {sp : Sp}
    (S : FnScope N ps scope) (len : ∀ vs H Q E, sp vs H Q E → vs.length = ps.length)
    (hbind : ∀ (us : List Value) (pm cv ctv : Value), us.length = ps.length → bindArgs (PySem.W.kla_fn "<lambda>" q params body scope [] pm cv ctv) ⟨us, []⟩ = pure (ps.zip us))
    (hb : ∀ (A : Around) (out : List Env) (s : Shared) (H : Hp) (f c : Addr) (vs : List V) (Q : VK) (E : XK), Room k (A.deeper (envOfC q scope s.heap.objs.size f (.ref c))) → sp vs H Q E →
      ∃ t, PE (cxOf cx P w K mg base N q scope f (.ref c) A out s H E) body t ∧ t (start N vs) H Q) : LamOk P w K mg base cx (k + 1) q params body scope sp := by
  intro A out s H f c pm ctv us vs Q E hr e0 ho hcr r hsp
  have hl := len _ _ _ _ hsp
  have free_ := e0.mod.nolimit.keeps fun b o e => (e0.bs b o e).1
  have slots : ∀ y ∈ ps.zip us, scope.names.lookup y.1 = some .local ∨ (scope.names.lookup y.1 = some .cell ∧ ((cellsFrom (s.heap.objs.size + 1) scope.names []).lookup y.1).isSome = true) := fun y hy =>
    (S.par y.1 (List.of_mem_zip (show (y.1, y.2) ∈ _ from hy)).1).imp _root_.id fun z => ⟨z, PySem.W.cellsFrom_some _ _ _ (.inl z)⟩
  refine PySem.W.kla_callFunE hr.depth ho rfl S.co S.gen rfl hcr ?_
  rw [hbind us pm (.ref c) ctv (by rw [← r.length]; exact hl)]
  refine wpAny_pure ?_
  refine wpAny_newFunctionEnv_cells S.kind slots fun env he s1 x => ?_
  subst he
  refine ⟨free_.keeps x.toInCall.keep, ?_⟩
  obtain ⟨t, ht, hq⟩ := hb A out s H f c vs Q E (hr.deeper _) hsp
  have I : Inv (cxOf cx P w K mg base N q scope f (.ref c) A out s H E) [] (start N vs) H s1 := inv_start S hr.hd e0 hl r x
  refine PySem.W.kla_codeExpr (wpAny_mono (ht.run [] s1 (start N vs) H _ I hq) (fun u s' hs => ?_) fun e s' hs => hs)
  obtain ⟨v, H', J, rv, qv⟩ := hs
  exact ⟨v, H', J.os, J.bare, J.base, J.hok, rv, qv⟩

section
variable {X : Cx}
theorem s75_call_sub (a b : Expr) (p : Pos) (args : List Expr) (pos : Pos) (env : Env) : eval (.Call (.Subscript a b p) args [] pos) env = (do callWith pos (← eval (.Subscript a b p) env) [] (backTo pos (starEach args env)) (backToKw pos (keywordEach [] env))) := rfl
/-- l[i](e, ..), a lambda there -/
def tLamCall (P : Program) (w : World) (K : PySem.W.Frag) (mg : Str → Option Value) (base : Heap) (cx : CXT) (k : Nat) (E : XK) (tf : TE) (ta : TA) : TE := fun σ H Q => tf σ H fun fv H1 => ∃ (f c : Addr) (q : Str) (params : Arguments) (body : Expr) (scope : Scope) (sp : Sp), fv = .ref f ∧ H1 f = some (LamO f q params body scope c) ∧
  ta σ H1 fun vs H2 => H2 f = some (LamO f q params body scope c) ∧ H2 c = some (CodeO c q) ∧ LamOk P w K mg base cx k q params body scope sp ∧ sp vs H2 Q E
theorem pe_lamcall {cx : CXT} {k : Nat} {E : XK} {a b e : Expr} {es : List Expr} {p pos : Pos} {tf : TE} {ta : TA} (hr : Room k X.A) (hx : Passes cx X E) (hf : PE X (.Subscript a b p) tf) (ha : PA X (e :: es) ta)
    (he : starEach (e :: es) X.env = (false, eval e X.env) :: starEach es X.env := by rfl) (hpl : (backTo pos (starEach es X.env)).any (·.1) = false := by rfl) :
    PE X (.Call (.Subscript a b p) (e :: es) [] pos) (tLamCall X.prog X.w X.K X.mg X.base cx k E tf ta) := by
  refine ⟨fun pins s σ H Q I h => ?_⟩
  rw [s75_call_sub]
  refine wpAny_bind (thn (hf.run pins s σ H _ I h) fun u s1 hh => ?_)
  obtain ⟨fv, H1, I1, r1, f, c, q, params, body, scope, sp, ef, hl, q1⟩ := hh
  subst ef
  obtain rfl : u = Value.ref f := r1
  obtain ⟨pm, ctv, ho⟩ := lamO_at I1.hok hl
  refine PySem.W.callWith_F ⟨_, _, _, _, ho⟩ (thn (ha.run pos pins s1 σ H1 _ I1 q1) fun us s2 ⟨vs, H2, I2, r2, hl2, hc2, L, hsp⟩ => ?_) he hpl
  obtain ⟨pm2, ctv2, ho2⟩ := lamO_at I2.hok hl2
  refine ⟨⟨_, _, _, _, ho2⟩, ?_⟩
  show wpAny _ _ (call (.ref f) us) _ _ _
  refine wpAny_call (codeAny_mono (L X.A X.stack s2 H2 f c pm2 ctv2 us vs Q E hr I2.env0 ho2 (codeO_at I2.hok hc2) r2 hsp) ?_)
  intro z s' hq
  match z, hq with
  | .error e, hq => exact hx pins σ H2 s2 e s' I2 hq
  | .ok (.ret u), hq => exact I2.after hq
  | .ok .next, hq => exact hq.elim
  | .ok .brk, hq => exact hq.elim
  | .ok .cont, hq => exact hq.elim
end
end Sd

/-! S75j: the law's end, where nothing is shown around its call and tables of code objects stand -/
namespace Sd
open PySem PySem.Spec PyProof.Rows L2 LamX

/-- the script, locked -/
abbrev scrO (vs : List Value) : Obj := { cls := .type "list", data := .seq vs.toArray }
/-- what is tracked as the law begins: the tables, and the script where it is not written -/
def lawH (K : PySem.W.Frag) (ts : List Addr) (a : Addr) (vs : List Value) (ns : List Int) : Hp := fun b =>
  if b ∈ ts then some (.tbl #[]) else if b = a ∧ K.lookup a = none then some (.frz (scrO vs) (.lst (ns.map V.int))) else none
section
variable {K : PySem.W.Frag} {ts : List Addr} {a : Addr} {vs : List Value} {ns : List Int}
theorem lawH_some {b : Addr} {u : HO} (e : lawH K ts a vs ns b = some u) : (b ∈ ts ∧ u = .tbl #[]) ∨ (b ∉ ts ∧ b = a ∧ K.lookup a = none ∧ u = .frz (scrO vs) (.lst (ns.map V.int))) := by
  unfold lawH at e
  split at e
  · rename_i h
    exact .inl ⟨h, (Option.some.inj e).symm⟩
  · rename_i h
    split at e
    · rename_i h2
      exact .inr ⟨h, h2.1, h2.2, (Option.some.inj e).symm⟩
    · cases e
theorem lawH_tab {b : Addr} (h : b ∈ ts) : lawH K ts a vs ns b = some (.tbl #[]) := if_pos h
theorem lawH_none {b : Addr} (h1 : b ∉ ts) (h2 : b ≠ a) : lawH K ts a vs ns b = none := by
  unfold lawH
  rw [if_neg h1, if_neg fun z => h2 z.1]
end
theorem law_callGT {P : Program} {w : World} {K : PySem.W.Frag} {mg mb : Str → Option Value} {cx : CXT} {k : Nat} {fa a : Addr} {cs : List (Addr × Addr)} {fd : FuncData} {x : Str} {sp : Sp} {s : Shared} {vs : List Value} {ns : List Int}
    (KX : K.In s.heap) (hns : s.heap.Ns mainGlobals mg) (hmb : s.heap.Ns builtinsNs mb) (hboot : ∀ y : Str, y ≠ "__name__" → mb y = bootBuiltins y) (hlim : s.heap.NoLimit) (hgen : s.gens = #[])
    (hT : ∀ p ∈ cs, s.heap.get? p.2 = some (PySem.W.tabObj #[])) (nT : ∀ p ∈ cs, K.lookup p.2 = none) (hC : ∀ p ∈ cs, PySem.W.CodeHd s.heap p.1 p.2)
    (hbm : ∃ (bm : Addr) (ob : Obj), mg "__builtins__" = some (.ref bm) ∧ bm ≠ builtinsNs ∧ s.heap.get? bm = some ob ∧ ob.cls = .type "module" ∧ ob.dict = some builtinsNs ∧ ob.data = .plain)
    (ha : s.heap.get? a = some (scrO vs)) (hi : IntsAre vs ns) (hl : ns.length ≤ sizeLine) (hr : Room k callerA)
    (F : ∀ base : Heap, K.In base → base.Ns mainGlobals mg → (∀ p ∈ cs, TabB base mg p.1 p.2) → FnG P w K mg base cx k fa fd [x] sp) (hbind : ∀ (s : Shared) (u : Value), BindsTo s fd ⟨[u], []⟩ [(x, u)])
    (hsp : ∀ H : Hp, (∀ p ∈ cs, H p.2 = some (.tbl #[])) → SqL K H a (ns.map V.int) → sp [.ref a] H (fun v _ => v = .bl true) fun _ _ _ => False)
    (hcx : ∀ H e s', cx [] H s (fun _ _ _ => False) e s' → False) :
    codeAny (model P w) callerA (.call (.ref fa) ⟨[.ref a], []⟩) (fun r s' => r = .ok (.ret (.bool true)) ∧ OldK s.heap s'.heap ∧ s'.os = s.os ∧ AllBare s'.gens) s := by
  have rv := vals_ints hi
  -- the tables
  have tabAt : ∀ b ∈ cs.map (·.2), s.heap.get? b = some (PySem.W.tabObj #[]) ∧ K.lookup b = none := by
    intro b hb
    obtain ⟨p, hp, rfl⟩ := List.mem_map.mp hb
    exact ⟨hT p hp, nT p hp⟩
  have aNot : a ∉ cs.map (·.2) := by
    intro z
    have e := (tabAt a z).1
    rw [ha] at e
    cases e
  generalize hH : lawH K (cs.map (·.2)) a vs ns = H
  have some_ : ∀ {b : Addr} {u : HO}, H b = some u → (b ∈ cs.map (·.2) ∧ u = .tbl #[]) ∨ (b ∉ cs.map (·.2) ∧ b = a ∧ K.lookup a = none ∧ u = .frz (scrO vs) (.lst (ns.map V.int))) := by
    subst hH
    exact lawH_some
  have tabs : ∀ p ∈ cs, H p.2 = some (.tbl #[]) := by
    subst hH
    exact fun p hp => lawH_tab (List.mem_map.mpr ⟨p, hp, rfl⟩)
  have hok : HOk P w H s.heap := by
    intro b u e
    rcases some_ e with ⟨h1, rfl⟩ | ⟨_, rfl, _, rfl⟩
    · exact (tabAt b h1).1
    · exact ⟨ha, by rw [List.length_map]; exact hl, vs, _, rv, ha⟩
  have seq : SqL K H a (ns.map V.int) := by
    cases hk : K.lookup a with
    | none =>
      refine .inl (.inr ⟨scrO vs, ?_⟩)
      subst hH
      unfold lawH
      rw [if_neg aNot, if_pos ⟨rfl, hk⟩]
    | some o =>
      have e := KX a o hk
      rw [ha] at e
      cases e
      exact .inr ⟨_, vs.toArray, _, hk, rfl, rfl, rfl, by rw [List.size_toArray, hi.length]; exact hl, by simpa using rv⟩
  -- what is not tracked is seen in the base
  have notTracked : ∀ {b : Addr} {o : Obj}, s.heap.get? b = some o → o ≠ PySem.W.tabObj #[] → (b = a → K.lookup a ≠ none) → H b = none := by
    intro b o e n1 n2
    cases q : H b with
    | none => rfl
    | some u =>
      rcases some_ q with ⟨h1, _⟩ | ⟨_, h2, h3, _⟩
      · rw [(tabAt b h1).1] at e
        exact absurd (Option.some.inj e).symm n1
      · exact absurd h3 (n2 h2)
  have base : ∀ {b : Addr} {o : Obj}, s.heap.get? b = some o → o ≠ PySem.W.tabObj #[] → o ≠ scrO vs → (hidT s.heap H).get? b = some o := by
    intro b o e n1 n2
    refine hidT_get e (notTracked e n1 fun z => ?_)
    rw [z, ha] at e
    exact absurd (Option.some.inj e).symm n2
  have nsB : ∀ {b : Addr} {m : Str → Option Value}, s.heap.Ns b m → (hidT s.heap H).Ns b m := by
    rintro b m ⟨o, es, ep, e, d, r⟩
    refine ⟨o, es, ep, base e (fun z => ?_) (fun z => ?_), d, r⟩ <;> (rw [z] at d; cases d)
  have kB : K.In (hidT s.heap H) := by
    intro b o e
    refine hidT_get (KX b o e) ?_
    cases q : H b with
    | none => rfl
    | some u =>
      rcases some_ q with ⟨h1, _⟩ | ⟨_, h2, h3, _⟩
      · rw [(tabAt b h1).2] at e
        cases e
      · rw [h2, h3] at e
        cases e
  have M : L2.Mod K mg (hidT s.heap H) := by
    obtain ⟨mc, z1, z2⟩ := hlim
    exact ⟨kB, nsB hns, ⟨mb, nsB hmb, hboot⟩, ⟨mc, nsB z1, z2⟩⟩
  have gAt := hns
  obtain ⟨og, eg, pg, hg1, hg2, _⟩ := gAt
  have TB : ∀ p ∈ cs, TabB (hidT s.heap H) mg p.1 p.2 := by
    intro p hp
    refine ⟨?_, ?_, fun z => ?_⟩
    · obtain ⟨o, us, fl, tf, fg, tg, inF, tx, tt, z1, z2, z3, z⟩ := hC p hp
      refine ⟨o, us, fl, tf, fg, tg, inF, tx, tt, base z1 (fun y => ?_) (fun y => ?_), z2, z3, z⟩
      · rw [y] at z2
        cases z2
      · rw [y] at z3
        cases z3
    · obtain ⟨bm, ob, b1, b2, b3, b4, b5, b6⟩ := hbm
      refine ⟨bm, ob, b1, b2, fun y => ?_, fun y => ?_, base b3 (fun y => ?_) (fun y => ?_), b4, b5, b6⟩
      · rw [y, hg1] at b3
        cases b3
        rw [hg2] at b6
        cases b6
      · rw [y, hT p hp] at b3
        cases b3
        cases b6
      · rw [y] at b6
        cases b6
      · rw [y] at b6
        cases b6
    · rw [z, hT p hp] at hg1
      cases hg1
      cases hg2
  have e0 : Env0 P w K mg (hidT s.heap H) callerA [] s H := ⟨rfl, M, fun b o e => of_hidT e, Nat.le_of_eq (hidT_size _ _), True.intro, (fun b z => nomatch (show b ∈ ([] : List Addr) from z)), hok, .of_eq hgen⟩
  refine codeAny_mono ((F _ kB (nsB hns) TB).go callerA [] s H ⟨[.ref a], []⟩ [.ref a] [.ref a] _ _ rfl hr e0 (hbind s (.ref a)) (.cons rfl .nil) (hsp H tabs seq)) ?_
  intro r s' h
  match r, h with
  | .error e, h => exact (hcx H e s' h).elim
  | .ok .next, h => exact h.elim
  | .ok .brk, h => exact h.elim
  | .ok .cont, h => exact h.elim
  | .ok (.ret u), ⟨v, H', os, bare, un, hok', r', q⟩ =>
    obtain rfl : v = .bl true := q
    obtain rfl : u = Value.bool true := r'
    -- the tables have grown, all else is as it was
    have grown : ∀ b ∈ cs.map (·.2), ∃ more : Array Value, s'.heap.get? b = some (PySem.W.tabObj more) := by
      intro b hb
      obtain ⟨p, hp, rfl⟩ := List.mem_map.mp hb
      obtain ⟨more, z⟩ := un.tbls p.2 #[] (tabs p hp)
      exact ⟨_, hok' p.2 _ z⟩
    have kept : ∀ b o, b ∉ cs.map (·.2) → s.heap.get? b = some o → s'.heap.get? b = some o := by
      intro b o nb e
      cases q : H b with
      | none => exact un.keep b o e q (fun z => nomatch (show b ∈ ([] : List Addr) from z)) (fun z => nomatch z)
      | some u =>
        rcases some_ q with ⟨h1, _⟩ | ⟨_, h2, h3, rfl⟩
        · exact absurd h1 nb
        · obtain ⟨y, _⟩ := hok' b _ (un.frzs b _ _ q)
          rw [h2, ha] at e
          cases e
          exact y
    refine ⟨rfl, ⟨fun b o e => ?_, fun b o e => ?_⟩, os, bare⟩
    · by_cases hb : b ∈ cs.map (·.2)
      · obtain ⟨p, hp, hpb⟩ := List.mem_map.mp hb
        obtain ⟨more, hm⟩ := grown b hb
        rw [(tabAt b hb).1] at e
        cases e
        refine .inr (.inl ⟨?_, rfl, #[], more, rfl, by rw [Array.empty_append]; exact hm⟩)
        rw [← hpb]
        exact ((hC p hp).tab (hT p hp)).isCodeTable
      · exact .inl (kept b o hb e)
    · by_cases hb : b ∈ cs.map (·.2)
      · obtain ⟨more, hm⟩ := grown b hb
        exact ⟨_, hm⟩
      · exact ⟨o, kept b o hb e⟩
end Sd

namespace Sd
open PySem PySem.Spec PyProof.Rows L2 LamX
/-- a def of the text as it stands in what is written -/
structure Fact (K : PySem.W.Frag) (x qual : Str) (st : Stmt) (ps : List Str) (f : Addr) (fd : FuncData) : Prop where
  at_ : PySem.W.nsIn K mainGlobals x = some (some (.ref f))
  fn : Fun K x qual st f fd
  bi : ∀ us : List Value, us.length = ps.length → bindArgs fd ⟨us, []⟩ = pure (ps.zip us)
theorem Fact.at {c : Wd} {h : Heap} {x qual : Str} {st : Stmt} {ps : List Str} {f : Addr} {fd : FuncData} (F : Fact c.K x qual st ps f fd) (X : c.K.In h) (G : h.Ns mainGlobals c.mg) : At c x qual st ps := ⟨f, fd, PySem.W.mg_of X G F.at_, F.fn, Binds.all F.bi⟩
section
variable {K : PySem.W.Frag} {st : Stmt} {ps : List Str} {f C p : Addr} {oc kV dc pm cd ct : Value} {od an : Option Addr} {sl : Array (Option Value)} {x m qual : Str}
theorem fact_mk (a : PySem.W.nsIn K mainGlobals x = some (some (.ref f))) (l : K.lookup f = some ⟨oc, od, .func (PySem.W.fnOf x x (defArgs st) (defBody st) (defScope st) .none kV dc pm an cd ct), sl⟩) (c : PySem.W.codeIn K cd x = true) (k : PySem.W.keepIn K (.ref f) = true)
    (hb : ∀ us : List Value, us.length = ps.length → bindArgs (PySem.W.fnOf x x (defArgs st) (defBody st) (defScope st) .none kV dc pm an cd ct) ⟨us, []⟩ = pure (ps.zip us)) : ∃ f fd, Fact K x x st ps f fd :=
  ⟨f, _, a, fun_mk l c k, hb⟩
theorem meth_mk (a : PySem.W.findIn K (.ref C) m = some (some (.ref f))) (fn : PySem.W.isFn K (.ref f) = true) (l : K.lookup f = some ⟨oc, od, .func (PySem.W.fnOf m qual (defArgs st) (defBody st) (defScope st) .none kV dc pm an cd ct), sl⟩) (c : PySem.W.codeIn K cd qual = true) (k : PySem.W.keepIn K (.ref f) = true)
    (hb : ∀ us : List Value, us.length = ps.length → bindArgs (PySem.W.fnOf m qual (defArgs st) (defBody st) (defScope st) .none kV dc pm an cd ct) ⟨us, []⟩ = pure (ps.zip us)) : ∃ f fd, Meth K C m f ∧ Fun K m qual st f fd ∧ Binds K fd ps [] :=
  ⟨f, _, ⟨a, fn, k⟩, fun_mk l c k, Binds.all hb⟩
theorem prop_mk {rest : List Value} (a : PySem.W.findIn K (.ref C) m = some (some (.ref p))) (g : PySem.W.specialIn K (.ref p) "__get__" = some (some (.builtin "property.__get__"))) (t : PySem.W.takesIn K (.ref p) = some true) (r : PySem.W.recIn K p "property" = some (.ref f :: rest))
    (l : K.lookup f = some ⟨oc, od, .func (PySem.W.fnOf m qual (defArgs st) (defBody st) (defScope st) .none kV dc pm an cd ct), sl⟩) (c : PySem.W.codeIn K cd qual = true) (k : PySem.W.keepIn K (.ref f) = true)
    (hb : ∀ us : List Value, us.length = ps.length → bindArgs (PySem.W.fnOf m qual (defArgs st) (defBody st) (defScope st) .none kV dc pm an cd ct) ⟨us, []⟩ = pure (ps.zip us)) : ∃ p f fd, PropOf K C m p f ∧ Fun K m qual st f fd ∧ Binds K fd ps [] :=
  ⟨p, f, _, ⟨a, g, t, rest, r⟩, fun_mk l c k, Binds.all hb⟩
theorem ini_mk (mk : PySem.W.makesIn K C = true) (a : PySem.W.findIn K (.ref C) "__init__" = some (some (.ref f))) (fn : PySem.W.isFn K (.ref f) = true) (kC : PySem.W.keepIn K (.ref C) = true) (l : K.lookup f = some ⟨oc, od, .func (PySem.W.fnOf "__init__" qual (defArgs st) (defBody st) (defScope st) .none kV dc pm an cd ct), sl⟩) (c : PySem.W.codeIn K cd qual = true) (k : PySem.W.keepIn K (.ref f) = true)
    (hb : ∀ us : List Value, us.length = ps.length → bindArgs (PySem.W.fnOf "__init__" qual (defArgs st) (defBody st) (defScope st) .none kV dc pm an cd ct) ⟨us, []⟩ = pure (ps.zip us)) : ∃ f fd, Mk K C f ∧ Fun K "__init__" qual st f fd ∧ Binds K fd ps [] :=
  ⟨f, _, ⟨mk, a, fn, kC⟩, fun_mk l c k, Binds.all hb⟩
end
def bltNames : List Str := ["len", "isinstance", "all", "sum", "list", "tuple", "int", "bool", "str", "abs", "min", "max", "sorted", "repr", "set", "range", "zip", "enumerate", "reversed"]
def bltB (K : PySem.W.Frag) : Bool := bltNames.all fun x => decide (PySem.W.nsIn K mainGlobals x = some none)
def noaB (K : PySem.W.Frag) (C : Addr) : Bool := mNames.all fun f => decide (PySem.W.findIn K (.ref C) f = some none)
def clsB (K : PySem.W.Frag) (C : Addr) : Bool := PySem.W.plainGet K C Str.empty && (PySem.W.hasDictIn K C && (PySem.W.plainOver K C && decide (PySem.W.findIn K (.ref C) "__setattr__" = some (some (.builtin "object.__setattr__")))))
/-- all that is asked of what is written -/
structure Txt (K : PySem.W.Frag) (C fl : Addr) (fdl : FuncData) : Prop where
  cat : PySem.W.nsIn K mainGlobals "Machine" = some (some (.ref C))
  dlaw : Fact K "law" "law" s_law P_law fl fdl
  d_is_integer : ∃ f fd, Fact K "is_integer" "is_integer" s_is_integer P_is_integer f fd
  d_is_integer_in : ∃ f fd, Fact K "is_integer_in" "is_integer_in" s_is_integer_in P_is_integer_in f fd
  d_is_name : ∃ f fd, Fact K "is_name" "is_name" s_is_name P_is_name f fd
  d_is_ascending : ∃ f fd, Fact K "is_ascending" "is_ascending" s_is_ascending P_is_ascending f fd
  d_are_ascending_names : ∃ f fd, Fact K "are_ascending_names" "are_ascending_names" s_are_ascending_names P_are_ascending_names f fd
  d_are_pages_of : ∃ f fd, Fact K "are_pages_of" "are_pages_of" s_are_pages_of P_are_pages_of f fd
  d_place_of : ∃ f fd, Fact K "place_of" "place_of" s_place_of P_place_of f fd
  d_turns_of : ∃ f fd, Fact K "turns_of" "turns_of" s_turns_of P_turns_of f fd
  d_is_watch : ∃ f fd, Fact K "is_watch" "is_watch" s_is_watch P_is_watch f fd
  d_check_watch : ∃ f fd, Fact K "check_watch" "check_watch" s_check_watch P_check_watch f fd
  d_with_touches : ∃ f fd, Fact K "with_touches" "with_touches" s_with_touches P_with_touches f fd
  d_marks_of : ∃ f fd, Fact K "marks_of" "marks_of" s_marks_of P_marks_of f fd
  d_without_seen : ∃ f fd, Fact K "without_seen" "without_seen" s_without_seen P_without_seen f fd
  d_seen_and_unseen : ∃ f fd, Fact K "seen_and_unseen" "seen_and_unseen" s_seen_and_unseen P_seen_and_unseen f fd
  d_unseen : ∃ f fd, Fact K "unseen" "unseen" s_unseen P_unseen f fd
  d_coarser : ∃ f fd, Fact K "coarser" "coarser" s_coarser P_coarser f fd
  d_is_step : ∃ f fd, Fact K "is_step" "is_step" s_is_step P_is_step f fd
  d_are_steps : ∃ f fd, Fact K "are_steps" "are_steps" s_are_steps P_are_steps f fd
  d_is_clock : ∃ f fd, Fact K "is_clock" "is_clock" s_is_clock P_is_clock f fd
  d_are_pages : ∃ f fd, Fact K "are_pages" "are_pages" s_are_pages P_are_pages f fd
  d_is_set : ∃ f fd, Fact K "is_set" "is_set" s_is_set P_is_set f fd
  d__law_take : ∃ f fd, Fact K "_law_take" "_law_take" s__law_take P__law_take f fd
  d__law_pot_of : ∃ f fd, Fact K "_law_pot_of" "_law_pot_of" s__law_pot_of P__law_pot_of f fd
  d__law_of : ∃ f fd, Fact K "_law_of" "_law_of" s__law_of P__law_of f fd
  d__law_some_steps : ∃ f fd, Fact K "_law_some_steps" "_law_some_steps" s__law_some_steps P__law_some_steps f fd
  d__law_lore : ∃ f fd, Fact K "_law_lore" "_law_lore" s__law_lore P__law_lore f fd
  d__law_sets_of : ∃ f fd, Fact K "_law_sets_of" "_law_sets_of" s__law_sets_of P__law_sets_of f fd
  d__law_step : ∃ f fd, Fact K "_law_step" "_law_step" s__law_step P__law_step f fd
  d__law_later : ∃ f fd, Fact K "_law_later" "_law_later" s__law_later P__law_later f fd
  d__law_ticks : ∃ f fd, Fact K "_law_ticks" "_law_ticks" s__law_ticks P__law_ticks f fd
  d__law_touched : ∃ f fd, Fact K "_law_touched" "_law_touched" s__law_touched P__law_touched f fd
  d__law_drawn_watch : ∃ f fd, Fact K "_law_drawn_watch" "_law_drawn_watch" s__law_drawn_watch P__law_drawn_watch f fd
  d__law_drawn_run : ∃ f fd, Fact K "_law_drawn_run" "_law_drawn_run" s__law_drawn_run P__law_drawn_run f fd
  d__law_made : ∃ f fd, Fact K "_law_made" "_law_made" s__law_made P__law_made f fd
  d__law_fewer : ∃ f fd, Fact K "_law_fewer" "_law_fewer" s__law_fewer P__law_fewer f fd
  d__law_is_left : ∃ f fd, Fact K "_law_is_left" "_law_is_left" s__law_is_left P__law_is_left f fd
  d__law_is_less : ∃ f fd, Fact K "_law_is_less" "_law_is_less" s__law_is_less P__law_is_less f fd
  d__law_right : ∃ f fd, Fact K "_law_right" "_law_right" s__law_right P__law_right f fd
  ini : ∃ f fd, Mk K C f ∧ Fun K "__init__" "Machine.__init__" s_Machine___init__ f fd ∧ Binds K fd P_Machine___init__ []
  m__check_step : ∃ f fd, Meth K C "_check_step" f ∧ Fun K "_check_step" "Machine._check_step" s_Machine__check_step f fd ∧ Binds K fd P_Machine__check_step []
  m_page : ∃ f fd, Meth K C "page" f ∧ Fun K "page" "Machine.page" s_Machine_page f fd ∧ Binds K fd P_Machine_page []
  m_is_run : ∃ f fd, Meth K C "is_run" f ∧ Fun K "is_run" "Machine.is_run" s_Machine_is_run f fd ∧ Binds K fd P_Machine_is_run []
  p_clock : ∃ p f fd, PropOf K C "clock" p f ∧ Fun K "clock" "Machine.clock" s_Machine_clock f fd ∧ Binds K fd P_Machine_clock []
  p_pages : ∃ p f fd, PropOf K C "pages" p f ∧ Fun K "pages" "Machine.pages" s_Machine_pages f fd ∧ Binds K fd P_Machine_pages []
  comb : PySem.W.nsIn K mainGlobals "combinations" = some (some (.type "itertools.combinations"))
  cls : clsB K C = true
  noa : noaB K C = true
  blt : bltB K = true
def numsZ : List (Str × Int) := [("LONGEST_NAME", 8), ("MOST_STEPS", 8), ("MOST_FOLLOWING", 3), ("MOST_TURNS", 3), ("MOST_TICKS", 3), ("LEAST_PAGES", 2), ("MOST_PAGES", 4), ("MOST_MOVE", 9)]
theorem bi_of {c : Wd} {h : Heap} (X : c.K.In h) (G : h.Ns mainGlobals c.mg) (hb : bltB c.K = true) : Bi c := by
  have k : ∀ x ∈ bltNames, c.mg x = none := fun x hx => PySem.W.mg_none_of X G (of_decide_eq_true (List.all_eq_true.mp hb x hx))
  constructor <;> exact k _ (by decide +kernel)
theorem law11 {P : Program} {w : World} {K : PySem.W.Frag} {mg : Str → Option Value} {base : Heap} {C fl : Addr} {fdl : FuncData} (T : Txt K C fl fdl) (kL : ∃ t, mg "LETTERS" = some (.str lettersZ t)) (kI : ∀ p ∈ numsZ, ∃ t, mg p.1 = some (.int p.2 t)) (X : K.In base) (G : base.Ns mainGlobals mg) :
    FnG P w K mg base (L2.CX P w) 9 fl fdl P_law (spLaw ⟨P, w, K, mg, base⟩) := by
  let c : Wd := ⟨P, w, K, mg, base⟩
  have X' : c.K.In base := X
  have G' : base.Ns mainGlobals c.mg := G
  have B : Bi c := bi_of (c := c) X' G' T.blt
  have Bc' : Bc c := by
    constructor
    · exact kI ("LONGEST_NAME", 8) (by simp [numsZ])
    · exact kL
  have Bm' : Bm c := by
    constructor
    · exact kI ("MOST_STEPS", 8) (by simp [numsZ])
    · exact kI ("MOST_FOLLOWING", 3) (by simp [numsZ])
    · exact kI ("MOST_TURNS", 3) (by simp [numsZ])
    · exact kI ("MOST_TICKS", 3) (by simp [numsZ])
    · exact kI ("LEAST_PAGES", 2) (by simp [numsZ])
    · exact kI ("MOST_PAGES", 4) (by simp [numsZ])
    · exact kI ("MOST_MOVE", 9) (by simp [numsZ])
    · exact PySem.W.mg_of X' G' T.comb
  have cl : Cls c.K C := by
    have h := T.cls
    simp only [clsB, Bool.and_eq_true, decide_eq_true_eq] at h
    exact ⟨h.1, h.2.1, h.2.2.1, h.2.2.2⟩
  have nA : ∀ f : Str, f ∈ mNames → NoAttr c.K C f := fun f hf => show PySem.W.findIn K (.ref C) f = some none from of_decide_eq_true (List.all_eq_true.mp T.noa f hf)
  have CA : ClAt c "Machine" "Machine.__init__" C s_Machine___init__ P_Machine___init__ := by
    obtain ⟨f, fd, h1, h2, h3⟩ := T.ini
    exact ⟨⟨f, fd, h1, PySem.W.mg_of X' G' T.cat, h2, h3⟩, cl⟩
  obtain ⟨_, _, F_is_integer⟩ := T.d_is_integer
  obtain ⟨_, _, F_is_integer_in⟩ := T.d_is_integer_in
  obtain ⟨_, _, F_is_name⟩ := T.d_is_name
  obtain ⟨_, _, F_is_ascending⟩ := T.d_is_ascending
  obtain ⟨_, _, F_are_ascending_names⟩ := T.d_are_ascending_names
  obtain ⟨_, _, F_are_pages_of⟩ := T.d_are_pages_of
  obtain ⟨_, _, F_place_of⟩ := T.d_place_of
  obtain ⟨_, _, F_turns_of⟩ := T.d_turns_of
  obtain ⟨_, _, F_is_watch⟩ := T.d_is_watch
  obtain ⟨_, _, F_check_watch⟩ := T.d_check_watch
  obtain ⟨_, _, F_with_touches⟩ := T.d_with_touches
  obtain ⟨_, _, F_marks_of⟩ := T.d_marks_of
  obtain ⟨_, _, F_without_seen⟩ := T.d_without_seen
  obtain ⟨_, _, F_seen_and_unseen⟩ := T.d_seen_and_unseen
  obtain ⟨_, _, F_unseen⟩ := T.d_unseen
  obtain ⟨_, _, F_coarser⟩ := T.d_coarser
  obtain ⟨_, _, F_is_step⟩ := T.d_is_step
  obtain ⟨_, _, F_are_steps⟩ := T.d_are_steps
  obtain ⟨_, _, F_is_clock⟩ := T.d_is_clock
  obtain ⟨_, _, F_are_pages⟩ := T.d_are_pages
  obtain ⟨_, _, F_is_set⟩ := T.d_is_set
  obtain ⟨_, _, F__law_take⟩ := T.d__law_take
  obtain ⟨_, _, F__law_pot_of⟩ := T.d__law_pot_of
  obtain ⟨_, _, F__law_of⟩ := T.d__law_of
  obtain ⟨_, _, F__law_some_steps⟩ := T.d__law_some_steps
  obtain ⟨_, _, F__law_lore⟩ := T.d__law_lore
  obtain ⟨_, _, F__law_sets_of⟩ := T.d__law_sets_of
  obtain ⟨_, _, F__law_step⟩ := T.d__law_step
  obtain ⟨_, _, F__law_later⟩ := T.d__law_later
  obtain ⟨_, _, F__law_ticks⟩ := T.d__law_ticks
  obtain ⟨_, _, F__law_touched⟩ := T.d__law_touched
  obtain ⟨_, _, F__law_drawn_watch⟩ := T.d__law_drawn_watch
  obtain ⟨_, _, F__law_drawn_run⟩ := T.d__law_drawn_run
  obtain ⟨_, _, F__law_made⟩ := T.d__law_made
  obtain ⟨_, _, F__law_fewer⟩ := T.d__law_fewer
  obtain ⟨_, _, F__law_is_left⟩ := T.d__law_is_left
  obtain ⟨_, _, F__law_is_less⟩ := T.d__law_is_less
  obtain ⟨_, _, F__law_right⟩ := T.d__law_right
  have A_is_integer := Fact.at (c := c) F_is_integer X' G'
  have A_is_integer_in := Fact.at (c := c) F_is_integer_in X' G'
  have A_is_name := Fact.at (c := c) F_is_name X' G'
  have A_is_ascending := Fact.at (c := c) F_is_ascending X' G'
  have A_are_ascending_names := Fact.at (c := c) F_are_ascending_names X' G'
  have A_are_pages_of := Fact.at (c := c) F_are_pages_of X' G'
  have A_place_of := Fact.at (c := c) F_place_of X' G'
  have A_turns_of := Fact.at (c := c) F_turns_of X' G'
  have A_is_watch := Fact.at (c := c) F_is_watch X' G'
  have A_check_watch := Fact.at (c := c) F_check_watch X' G'
  have A_with_touches := Fact.at (c := c) F_with_touches X' G'
  have A_marks_of := Fact.at (c := c) F_marks_of X' G'
  have A_without_seen := Fact.at (c := c) F_without_seen X' G'
  have A_seen_and_unseen := Fact.at (c := c) F_seen_and_unseen X' G'
  have A_unseen := Fact.at (c := c) F_unseen X' G'
  have A_coarser := Fact.at (c := c) F_coarser X' G'
  have A_is_step := Fact.at (c := c) F_is_step X' G'
  have A_are_steps := Fact.at (c := c) F_are_steps X' G'
  have A_is_clock := Fact.at (c := c) F_is_clock X' G'
  have A_are_pages := Fact.at (c := c) F_are_pages X' G'
  have A_is_set := Fact.at (c := c) F_is_set X' G'
  have A__law_take := Fact.at (c := c) F__law_take X' G'
  have A__law_pot_of := Fact.at (c := c) F__law_pot_of X' G'
  have A__law_of := Fact.at (c := c) F__law_of X' G'
  have A__law_some_steps := Fact.at (c := c) F__law_some_steps X' G'
  have A__law_lore := Fact.at (c := c) F__law_lore X' G'
  have A__law_sets_of := Fact.at (c := c) F__law_sets_of X' G'
  have A__law_step := Fact.at (c := c) F__law_step X' G'
  have A__law_later := Fact.at (c := c) F__law_later X' G'
  have A__law_ticks := Fact.at (c := c) F__law_ticks X' G'
  have A__law_touched := Fact.at (c := c) F__law_touched X' G'
  have A__law_drawn_watch := Fact.at (c := c) F__law_drawn_watch X' G'
  have A__law_drawn_run := Fact.at (c := c) F__law_drawn_run X' G'
  have A__law_made := Fact.at (c := c) F__law_made X' G'
  have A__law_fewer := Fact.at (c := c) F__law_fewer X' G'
  have A__law_is_left := Fact.at (c := c) F__law_is_left X' G'
  have A__law_is_less := Fact.at (c := c) F__law_is_less X' G'
  have A__law_right := Fact.at (c := c) F__law_right X' G'
  have M__check_step : MtAt c C "_check_step" "Machine._check_step" s_Machine__check_step P_Machine__check_step := ⟨T.m__check_step, cl⟩
  have M_page : MtAt c C "page" "Machine.page" s_Machine_page P_Machine_page := ⟨T.m_page, cl⟩
  have M_is_run : MtAt c C "is_run" "Machine.is_run" s_Machine_is_run P_Machine_is_run := ⟨T.m_is_run, cl⟩
  have R_clock : PrAt c C "clock" "Machine.clock" s_Machine_clock P_Machine_clock := ⟨T.p_clock, cl⟩
  have R_pages : PrAt c C "pages" "Machine.pages" s_Machine_pages P_Machine_pages := ⟨T.p_pages, cl⟩
  have D_take := ok_take (c := c) A__law_take B
  have D_int := ok_is_integer (c := c) A_is_integer B
  have D_intin := ok_is_integer_in (c := c) A_is_integer_in B D_int
  have D_name := ok_is_name (c := c) A_is_name B Bc'
  have D_asc := ok_is_ascending (c := c) A_is_ascending B
  have D_names := ok_are_ascending_names (c := c) A_are_ascending_names B D_name D_asc
  have D_step := ok_is_step (c := c) A_is_step B Bm' D_name D_names
  have D_clk := ok_is_clock (c := c) A_is_clock B Bm' D_intin
  have D_set := ok_is_set (c := c) A_is_set B D_names
  have D_pgs := ok_are_pages (c := c) A_are_pages B Bm' D_names
  have D_stps := ok_are_steps (c := c) A_are_steps B Bm' D_step
  have D_mac := ok_Machine_init (c := c) (C := C) CA B Bm' D_stps D_clk D_pgs D_intin D_set nA
  have n_ : ∀ f : Str, f ∈ mNames → NoAttr c.K C f := nA
  have D_chk := ok_Machine__check_step (c := c) (C := C) M__check_step B (n_ "_names" (by decide +kernel))
  have D_page := ok_Machine_page (c := c) (C := C) M_page B (n_ "_page_of" (by decide +kernel)) D_chk
  have D_run := ok_Machine_is_run (c := c) (C := C) M_is_run B nA
  have D_clock := ok_Machine_clock (c := c) (C := C) R_clock (n_ "_clock" (by decide +kernel))
  have D_pages := ok_Machine_pages (c := c) (C := C) R_pages (n_ "_pages" (by decide +kernel))
  have D_place := ok_place_of (c := c) (C := C) A_place_of B D_clock
  have D_turns := ok_turns_of (c := c) (C := C) A_turns_of B D_clock D_run D_place (by decide +kernel)
  have D_pof := ok_are_pages_of (c := c) (C := C) A_are_pages_of B D_pages D_names
  have D_marks := ok_marks_of (c := c) A_marks_of B
  have D_isw := ok_is_watch (c := c) (C := C) A_is_watch B D_clock D_pof
  have D_chw := ok_check_watch (c := c) (C := C) A_check_watch D_isw
  have D_wo := ok_without_seen (c := c) A_without_seen B
  have D_wi := ok_with_touches (c := c) (C := C) A_with_touches B D_pages D_page (by decide +kernel)
  have D_su := ok_seen_and_unseen (c := c) (C := C) A_seen_and_unseen B D_clock D_chw D_turns D_place D_wi D_marks D_wo
  have D_unseen := ok_unseen (c := c) (C := C) A_unseen D_su
  have D_coarser := ok_coarser (c := c) (C := C) A_coarser B D_chw
  have D_pot := ok_pot_of (c := c) A__law_pot_of B
  have D_of := ok_of (c := c) A__law_of B D_take
  have D_some := ok_some_steps (c := c) A__law_some_steps B D_take D_of
  have D_setsof := ok_sets_of (c := c) A__law_sets_of B
  have D_lore := ok_lore (c := c) A__law_lore B D_take D_of D_some D_setsof
  have D_lstep := ok_lstep (c := c) A__law_step B
  have D_llater := ok_llater (c := c) A__law_later B D_lstep
  have D_lticks := ok_lticks (c := c) A__law_ticks B
  have D_ltou := ok_ltouched (c := c) A__law_touched B D_lstep
  have D_lwat := ok_lwatch (c := c) A__law_drawn_watch B D_take
  have D_lleft := ok_lleft (c := c) A__law_is_left B D_lticks D_ltou
  have D_lfew := ok_lfewer (c := c) A__law_fewer B D_take
  have D_lless := ok_lless (c := c) A__law_is_less B
  have D_lrun := ok_lrun (c := c) A__law_drawn_run B D_take D_llater D_of
  have D_lmade := ok_lmade (c := c) (C := C) A__law_made D_mac
  have D_right := ok_right (c := c) (C := C) A__law_right B D_lore D_lmade D_lrun D_lwat D_lfew D_lleft D_lless D_unseen D_coarser
  exact ok_law (c := c) T.dlaw.fn B D_pot D_right
theorem walk11 {l : PySem.W.OpenLaw} {q : Program} {loose : List Str} {XP : (Str → Option Value) → Heap → Prop} {YP : World → Heap → Prop} {d : DefRec} {K : Params → PySem.W.Frag} (hn : l.most = some 63) (hdf : d.params.defaults = []) (hd : d.name = "law")
    (hL : valOf q "LETTERS" = some (.str lettersZ)) (hI : ∀ p ∈ numsZ, valOf q p.1 = some (.int p.2)) (hY : ∀ (w : World) (h : Heap), YP w h → (K w.params).In h)
    (F : ∀ w : World, ∃ C fl fdl, Txt (K w.params) C fl fdl) : PySem.W.WalkO q loose XP YP l.row.toRowW d [] (fun f vs => PySem.call f vs) := by
  refine Att.attach_callB hn hdf fun w s₀ s₁ mg mb fa o pm cd doc a vs ns G Y ho hd' hcd hmg hobj hints hlen hbits hg => ?_
  have KX := hY w _ Y
  obtain ⟨C, fl, fdl, T⟩ := F w
  have hfa : fa = fl := by
    rw [hd, PySem.W.mg_of KX G.T.g T.dlaw.at_] at hmg
    cases hmg
    rfl
  subst hfa
  have kL : ∃ t, mg "LETTERS" = some (.str lettersZ t) := by
    obtain ⟨v, h1, h2⟩ := G.T.const _ _ hL
    have h3 := h2 s₁.heap
    cases h3
    exact ⟨_, h1⟩
  have kI : ∀ p ∈ numsZ, ∃ t, mg p.1 = some (.int p.2 t) := fun p hp => by
    obtain ⟨v, h1, h2⟩ := G.T.const _ _ (hI p hp)
    have h3 := h2 s₁.heap
    generalize p.2 = n at h3
    cases h3
    exact ⟨_, h1⟩
  refine law_callGT (cs := []) (k := 9) (x := "_law_script") (sp := fun vs H Q E => spLaw ⟨l.prog, w, K w.params, mg, s₁.heap⟩ vs H Q E) KX G.T.g G.T.b G.T.builtins G.T.nolimit hg (fun p hp => nomatch hp) (fun p hp => nomatch hp) (fun p hp => nomatch hp) G.T.bmain hobj hints (Nat.le_trans hlen (by decide)) ⟨rfl, by decide, by decide⟩ (fun base Xb Gb TB => law11 T kL kI Xb Gb) ?_ (fun H hH hS => ?_) fun H e s' z => ?_
  · intro s u
    exact .of_eq (T.dlaw.bi [u] rfl)
  · exact ⟨a, ns, rfl, hS, hlen, hbits, fun _ => rfl⟩
  · obtain ⟨_, _, _, _, _, _, _, _, _, _, _, _, y⟩ := z
    exact y.elim
theorem txt_mk {K : PySem.W.Frag} {C fl : Addr} {oc kV dc pm cd ct : Value} {od an : Option Addr} {sl : Array (Option Value)}
    (cat : PySem.W.nsIn K mainGlobals "Machine" = some (some (.ref C)))
    (a : PySem.W.nsIn K mainGlobals "law" = some (some (.ref fl))) (l : K.lookup fl = some ⟨oc, od, .func (PySem.W.fnOf "law" "law" (defArgs s_law) (defBody s_law) (defScope s_law) .none kV dc pm an cd ct), sl⟩) (c : PySem.W.codeIn K cd "law" = true) (k : PySem.W.keepIn K (.ref fl) = true)
    (d_is_integer : ∃ f fd, Fact K "is_integer" "is_integer" s_is_integer P_is_integer f fd)
    (d_is_integer_in : ∃ f fd, Fact K "is_integer_in" "is_integer_in" s_is_integer_in P_is_integer_in f fd)
    (d_is_name : ∃ f fd, Fact K "is_name" "is_name" s_is_name P_is_name f fd)
    (d_is_ascending : ∃ f fd, Fact K "is_ascending" "is_ascending" s_is_ascending P_is_ascending f fd)
    (d_are_ascending_names : ∃ f fd, Fact K "are_ascending_names" "are_ascending_names" s_are_ascending_names P_are_ascending_names f fd)
    (d_are_pages_of : ∃ f fd, Fact K "are_pages_of" "are_pages_of" s_are_pages_of P_are_pages_of f fd)
    (d_place_of : ∃ f fd, Fact K "place_of" "place_of" s_place_of P_place_of f fd)
    (d_turns_of : ∃ f fd, Fact K "turns_of" "turns_of" s_turns_of P_turns_of f fd)
    (d_is_watch : ∃ f fd, Fact K "is_watch" "is_watch" s_is_watch P_is_watch f fd)
    (d_check_watch : ∃ f fd, Fact K "check_watch" "check_watch" s_check_watch P_check_watch f fd)
    (d_with_touches : ∃ f fd, Fact K "with_touches" "with_touches" s_with_touches P_with_touches f fd)
    (d_marks_of : ∃ f fd, Fact K "marks_of" "marks_of" s_marks_of P_marks_of f fd)
    (d_without_seen : ∃ f fd, Fact K "without_seen" "without_seen" s_without_seen P_without_seen f fd)
    (d_seen_and_unseen : ∃ f fd, Fact K "seen_and_unseen" "seen_and_unseen" s_seen_and_unseen P_seen_and_unseen f fd)
    (d_unseen : ∃ f fd, Fact K "unseen" "unseen" s_unseen P_unseen f fd)
    (d_coarser : ∃ f fd, Fact K "coarser" "coarser" s_coarser P_coarser f fd)
    (d_is_step : ∃ f fd, Fact K "is_step" "is_step" s_is_step P_is_step f fd)
    (d_are_steps : ∃ f fd, Fact K "are_steps" "are_steps" s_are_steps P_are_steps f fd)
    (d_is_clock : ∃ f fd, Fact K "is_clock" "is_clock" s_is_clock P_is_clock f fd)
    (d_are_pages : ∃ f fd, Fact K "are_pages" "are_pages" s_are_pages P_are_pages f fd)
    (d_is_set : ∃ f fd, Fact K "is_set" "is_set" s_is_set P_is_set f fd)
    (d__law_take : ∃ f fd, Fact K "_law_take" "_law_take" s__law_take P__law_take f fd)
    (d__law_pot_of : ∃ f fd, Fact K "_law_pot_of" "_law_pot_of" s__law_pot_of P__law_pot_of f fd)
    (d__law_of : ∃ f fd, Fact K "_law_of" "_law_of" s__law_of P__law_of f fd)
    (d__law_some_steps : ∃ f fd, Fact K "_law_some_steps" "_law_some_steps" s__law_some_steps P__law_some_steps f fd)
    (d__law_lore : ∃ f fd, Fact K "_law_lore" "_law_lore" s__law_lore P__law_lore f fd)
    (d__law_sets_of : ∃ f fd, Fact K "_law_sets_of" "_law_sets_of" s__law_sets_of P__law_sets_of f fd)
    (d__law_step : ∃ f fd, Fact K "_law_step" "_law_step" s__law_step P__law_step f fd)
    (d__law_later : ∃ f fd, Fact K "_law_later" "_law_later" s__law_later P__law_later f fd)
    (d__law_ticks : ∃ f fd, Fact K "_law_ticks" "_law_ticks" s__law_ticks P__law_ticks f fd)
    (d__law_touched : ∃ f fd, Fact K "_law_touched" "_law_touched" s__law_touched P__law_touched f fd)
    (d__law_drawn_watch : ∃ f fd, Fact K "_law_drawn_watch" "_law_drawn_watch" s__law_drawn_watch P__law_drawn_watch f fd)
    (d__law_drawn_run : ∃ f fd, Fact K "_law_drawn_run" "_law_drawn_run" s__law_drawn_run P__law_drawn_run f fd)
    (d__law_made : ∃ f fd, Fact K "_law_made" "_law_made" s__law_made P__law_made f fd)
    (d__law_fewer : ∃ f fd, Fact K "_law_fewer" "_law_fewer" s__law_fewer P__law_fewer f fd)
    (d__law_is_left : ∃ f fd, Fact K "_law_is_left" "_law_is_left" s__law_is_left P__law_is_left f fd)
    (d__law_is_less : ∃ f fd, Fact K "_law_is_less" "_law_is_less" s__law_is_less P__law_is_less f fd)
    (d__law_right : ∃ f fd, Fact K "_law_right" "_law_right" s__law_right P__law_right f fd)
    (ini : ∃ f fd, Mk K C f ∧ Fun K "__init__" "Machine.__init__" s_Machine___init__ f fd ∧ Binds K fd P_Machine___init__ [])
    (m__check_step : ∃ f fd, Meth K C "_check_step" f ∧ Fun K "_check_step" "Machine._check_step" s_Machine__check_step f fd ∧ Binds K fd P_Machine__check_step [])
    (m_page : ∃ f fd, Meth K C "page" f ∧ Fun K "page" "Machine.page" s_Machine_page f fd ∧ Binds K fd P_Machine_page [])
    (m_is_run : ∃ f fd, Meth K C "is_run" f ∧ Fun K "is_run" "Machine.is_run" s_Machine_is_run f fd ∧ Binds K fd P_Machine_is_run [])
    (p_clock : ∃ p f fd, PropOf K C "clock" p f ∧ Fun K "clock" "Machine.clock" s_Machine_clock f fd ∧ Binds K fd P_Machine_clock [])
    (p_pages : ∃ p f fd, PropOf K C "pages" p f ∧ Fun K "pages" "Machine.pages" s_Machine_pages f fd ∧ Binds K fd P_Machine_pages [])
    (comb : PySem.W.nsIn K mainGlobals "combinations" = some (some (.type "itertools.combinations"))) (cls : clsB K C = true) (noa : noaB K C = true) (blt : bltB K = true) : ∃ C fl fdl, Txt K C fl fdl :=
  ⟨C, fl, PySem.W.fnOf "law" "law" (defArgs s_law) (defBody s_law) (defScope s_law) .none kV dc pm an cd ct, cat, ⟨a, fun_mk l c k, fun us h => (match us, h with | [_], _ => rfl)⟩, d_is_integer, d_is_integer_in, d_is_name, d_is_ascending, d_are_ascending_names, d_are_pages_of, d_place_of, d_turns_of, d_is_watch, d_check_watch, d_with_touches, d_marks_of, d_without_seen, d_seen_and_unseen, d_unseen, d_coarser, d_is_step, d_are_steps, d_is_clock, d_are_pages, d_is_set, d__law_take, d__law_pot_of, d__law_of, d__law_some_steps, d__law_lore, d__law_sets_of, d__law_step, d__law_later, d__law_ticks, d__law_touched, d__law_drawn_watch, d__law_drawn_run, d__law_made, d__law_fewer, d__law_is_left, d__law_is_less, d__law_right, ini, m__check_step, m_page, m_is_run, p_clock, p_pages, comb, cls, noa, blt⟩
end Sd

open PySem PySem.W PyProof.Rows
open_top hd11 for PySem.Challenge.rw_seldomseen_k11_what_is_not_seen

open PySem PySem.W PyProof.Rows
theorem PySem.Challenge.cw_seldomseen_k11_what_is_not_seen_holds : PySem.Challenge.rw_seldomseen_k11_what_is_not_seen.Holds := by
  refine hd11 ?_
  k_fill
  refine Sd.walk11 rfl rfl rfl ?hL ?hI (fun w h Y => PySem.W.kIn_of Y) ?F
  case hL => kernel_rfl
  case hI =>
    intro p hp
    simp only [Sd.numsZ, List.mem_cons, List.not_mem_nil, or_false] at hp
    rcases hp with h | h | h | h | h | h | h | h <;> subst h <;> kernel_rfl
  case F =>
    intro w
    refine' Sd.txt_mk ?cat ?a ?l ?c ?k ?d_is_integer ?d_is_integer_in ?d_is_name ?d_is_ascending ?d_are_ascending_names ?d_are_pages_of ?d_place_of ?d_turns_of ?d_is_watch ?d_check_watch ?d_with_touches ?d_marks_of ?d_without_seen ?d_seen_and_unseen ?d_unseen ?d_coarser ?d_is_step ?d_are_steps ?d_is_clock ?d_are_pages ?d_is_set ?d__law_take ?d__law_pot_of ?d__law_of ?d__law_some_steps ?d__law_lore ?d__law_sets_of ?d__law_step ?d__law_later ?d__law_ticks ?d__law_touched ?d__law_drawn_watch ?d__law_drawn_run ?d__law_made ?d__law_fewer ?d__law_is_left ?d__law_is_less ?d__law_right ?ini ?m__check_step ?m_page ?m_is_run ?p_clock ?p_pages ?comb ?cls ?noa ?blt
    (case cat => k_is)
    (case a => k_is)
    (case l => k_is)
    (case c => k_is)
    (case k => k_is)
    (case d_is_integer => (refine' Sd.fact_mk ?a ?l ?c ?k ?hb; (case a => k_is); (case l => k_is); (case c => k_is); (case k => k_is); (case hb => first | exact fun us h => (match us, h with | [_], _ => rfl) | exact fun us h => (match us, h with | [_, _], _ => rfl) | exact fun us h => (match us, h with | [_, _, _], _ => rfl) | exact fun us h => (match us, h with | [_, _, _, _], _ => rfl) | exact fun us h => (match us, h with | [_, _, _, _, _], _ => rfl) | exact fun us h => (match us, h with | [_, _, _, _, _, _], _ => rfl))))
    (case d_is_integer_in => (refine' Sd.fact_mk ?a ?l ?c ?k ?hb; (case a => k_is); (case l => k_is); (case c => k_is); (case k => k_is); (case hb => first | exact fun us h => (match us, h with | [_], _ => rfl) | exact fun us h => (match us, h with | [_, _], _ => rfl) | exact fun us h => (match us, h with | [_, _, _], _ => rfl) | exact fun us h => (match us, h with | [_, _, _, _], _ => rfl) | exact fun us h => (match us, h with | [_, _, _, _, _], _ => rfl) | exact fun us h => (match us, h with | [_, _, _, _, _, _], _ => rfl))))
    (case d_is_name => (refine' Sd.fact_mk ?a ?l ?c ?k ?hb; (case a => k_is); (case l => k_is); (case c => k_is); (case k => k_is); (case hb => first | exact fun us h => (match us, h with | [_], _ => rfl) | exact fun us h => (match us, h with | [_, _], _ => rfl) | exact fun us h => (match us, h with | [_, _, _], _ => rfl) | exact fun us h => (match us, h with | [_, _, _, _], _ => rfl) | exact fun us h => (match us, h with | [_, _, _, _, _], _ => rfl) | exact fun us h => (match us, h with | [_, _, _, _, _, _], _ => rfl))))
    (case d_is_ascending => (refine' Sd.fact_mk ?a ?l ?c ?k ?hb; (case a => k_is); (case l => k_is); (case c => k_is); (case k => k_is); (case hb => first | exact fun us h => (match us, h with | [_], _ => rfl) | exact fun us h => (match us, h with | [_, _], _ => rfl) | exact fun us h => (match us, h with | [_, _, _], _ => rfl) | exact fun us h => (match us, h with | [_, _, _, _], _ => rfl) | exact fun us h => (match us, h with | [_, _, _, _, _], _ => rfl) | exact fun us h => (match us, h with | [_, _, _, _, _, _], _ => rfl))))
    (case d_are_ascending_names => (refine' Sd.fact_mk ?a ?l ?c ?k ?hb; (case a => k_is); (case l => k_is); (case c => k_is); (case k => k_is); (case hb => first | exact fun us h => (match us, h with | [_], _ => rfl) | exact fun us h => (match us, h with | [_, _], _ => rfl) | exact fun us h => (match us, h with | [_, _, _], _ => rfl) | exact fun us h => (match us, h with | [_, _, _, _], _ => rfl) | exact fun us h => (match us, h with | [_, _, _, _, _], _ => rfl) | exact fun us h => (match us, h with | [_, _, _, _, _, _], _ => rfl))))
    (case d_are_pages_of => (refine' Sd.fact_mk ?a ?l ?c ?k ?hb; (case a => k_is); (case l => k_is); (case c => k_is); (case k => k_is); (case hb => first | exact fun us h => (match us, h with | [_], _ => rfl) | exact fun us h => (match us, h with | [_, _], _ => rfl) | exact fun us h => (match us, h with | [_, _, _], _ => rfl) | exact fun us h => (match us, h with | [_, _, _, _], _ => rfl) | exact fun us h => (match us, h with | [_, _, _, _, _], _ => rfl) | exact fun us h => (match us, h with | [_, _, _, _, _, _], _ => rfl))))
    (case d_place_of => (refine' Sd.fact_mk ?a ?l ?c ?k ?hb; (case a => k_is); (case l => k_is); (case c => k_is); (case k => k_is); (case hb => first | exact fun us h => (match us, h with | [_], _ => rfl) | exact fun us h => (match us, h with | [_, _], _ => rfl) | exact fun us h => (match us, h with | [_, _, _], _ => rfl) | exact fun us h => (match us, h with | [_, _, _, _], _ => rfl) | exact fun us h => (match us, h with | [_, _, _, _, _], _ => rfl) | exact fun us h => (match us, h with | [_, _, _, _, _, _], _ => rfl))))
    (case d_turns_of => (refine' Sd.fact_mk ?a ?l ?c ?k ?hb; (case a => k_is); (case l => k_is); (case c => k_is); (case k => k_is); (case hb => first | exact fun us h => (match us, h with | [_], _ => rfl) | exact fun us h => (match us, h with | [_, _], _ => rfl) | exact fun us h => (match us, h with | [_, _, _], _ => rfl) | exact fun us h => (match us, h with | [_, _, _, _], _ => rfl) | exact fun us h => (match us, h with | [_, _, _, _, _], _ => rfl) | exact fun us h => (match us, h with | [_, _, _, _, _, _], _ => rfl))))
    (case d_is_watch => (refine' Sd.fact_mk ?a ?l ?c ?k ?hb; (case a => k_is); (case l => k_is); (case c => k_is); (case k => k_is); (case hb => first | exact fun us h => (match us, h with | [_], _ => rfl) | exact fun us h => (match us, h with | [_, _], _ => rfl) | exact fun us h => (match us, h with | [_, _, _], _ => rfl) | exact fun us h => (match us, h with | [_, _, _, _], _ => rfl) | exact fun us h => (match us, h with | [_, _, _, _, _], _ => rfl) | exact fun us h => (match us, h with | [_, _, _, _, _, _], _ => rfl))))
    (case d_check_watch => (refine' Sd.fact_mk ?a ?l ?c ?k ?hb; (case a => k_is); (case l => k_is); (case c => k_is); (case k => k_is); (case hb => first | exact fun us h => (match us, h with | [_], _ => rfl) | exact fun us h => (match us, h with | [_, _], _ => rfl) | exact fun us h => (match us, h with | [_, _, _], _ => rfl) | exact fun us h => (match us, h with | [_, _, _, _], _ => rfl) | exact fun us h => (match us, h with | [_, _, _, _, _], _ => rfl) | exact fun us h => (match us, h with | [_, _, _, _, _, _], _ => rfl))))
    (case d_with_touches => (refine' Sd.fact_mk ?a ?l ?c ?k ?hb; (case a => k_is); (case l => k_is); (case c => k_is); (case k => k_is); (case hb => first | exact fun us h => (match us, h with | [_], _ => rfl) | exact fun us h => (match us, h with | [_, _], _ => rfl) | exact fun us h => (match us, h with | [_, _, _], _ => rfl) | exact fun us h => (match us, h with | [_, _, _, _], _ => rfl) | exact fun us h => (match us, h with | [_, _, _, _, _], _ => rfl) | exact fun us h => (match us, h with | [_, _, _, _, _, _], _ => rfl))))
    (case d_marks_of => (refine' Sd.fact_mk ?a ?l ?c ?k ?hb; (case a => k_is); (case l => k_is); (case c => k_is); (case k => k_is); (case hb => first | exact fun us h => (match us, h with | [_], _ => rfl) | exact fun us h => (match us, h with | [_, _], _ => rfl) | exact fun us h => (match us, h with | [_, _, _], _ => rfl) | exact fun us h => (match us, h with | [_, _, _, _], _ => rfl) | exact fun us h => (match us, h with | [_, _, _, _, _], _ => rfl) | exact fun us h => (match us, h with | [_, _, _, _, _, _], _ => rfl))))
    (case d_without_seen => (refine' Sd.fact_mk ?a ?l ?c ?k ?hb; (case a => k_is); (case l => k_is); (case c => k_is); (case k => k_is); (case hb => first | exact fun us h => (match us, h with | [_], _ => rfl) | exact fun us h => (match us, h with | [_, _], _ => rfl) | exact fun us h => (match us, h with | [_, _, _], _ => rfl) | exact fun us h => (match us, h with | [_, _, _, _], _ => rfl) | exact fun us h => (match us, h with | [_, _, _, _, _], _ => rfl) | exact fun us h => (match us, h with | [_, _, _, _, _, _], _ => rfl))))
    (case d_seen_and_unseen => (refine' Sd.fact_mk ?a ?l ?c ?k ?hb; (case a => k_is); (case l => k_is); (case c => k_is); (case k => k_is); (case hb => first | exact fun us h => (match us, h with | [_], _ => rfl) | exact fun us h => (match us, h with | [_, _], _ => rfl) | exact fun us h => (match us, h with | [_, _, _], _ => rfl) | exact fun us h => (match us, h with | [_, _, _, _], _ => rfl) | exact fun us h => (match us, h with | [_, _, _, _, _], _ => rfl) | exact fun us h => (match us, h with | [_, _, _, _, _, _], _ => rfl))))
    (case d_unseen => (refine' Sd.fact_mk ?a ?l ?c ?k ?hb; (case a => k_is); (case l => k_is); (case c => k_is); (case k => k_is); (case hb => first | exact fun us h => (match us, h with | [_], _ => rfl) | exact fun us h => (match us, h with | [_, _], _ => rfl) | exact fun us h => (match us, h with | [_, _, _], _ => rfl) | exact fun us h => (match us, h with | [_, _, _, _], _ => rfl) | exact fun us h => (match us, h with | [_, _, _, _, _], _ => rfl) | exact fun us h => (match us, h with | [_, _, _, _, _, _], _ => rfl))))
    (case d_coarser => (refine' Sd.fact_mk ?a ?l ?c ?k ?hb; (case a => k_is); (case l => k_is); (case c => k_is); (case k => k_is); (case hb => first | exact fun us h => (match us, h with | [_], _ => rfl) | exact fun us h => (match us, h with | [_, _], _ => rfl) | exact fun us h => (match us, h with | [_, _, _], _ => rfl) | exact fun us h => (match us, h with | [_, _, _, _], _ => rfl) | exact fun us h => (match us, h with | [_, _, _, _, _], _ => rfl) | exact fun us h => (match us, h with | [_, _, _, _, _, _], _ => rfl))))
    (case d_is_step => (refine' Sd.fact_mk ?a ?l ?c ?k ?hb; (case a => k_is); (case l => k_is); (case c => k_is); (case k => k_is); (case hb => first | exact fun us h => (match us, h with | [_], _ => rfl) | exact fun us h => (match us, h with | [_, _], _ => rfl) | exact fun us h => (match us, h with | [_, _, _], _ => rfl) | exact fun us h => (match us, h with | [_, _, _, _], _ => rfl) | exact fun us h => (match us, h with | [_, _, _, _, _], _ => rfl) | exact fun us h => (match us, h with | [_, _, _, _, _, _], _ => rfl))))
    (case d_are_steps => (refine' Sd.fact_mk ?a ?l ?c ?k ?hb; (case a => k_is); (case l => k_is); (case c => k_is); (case k => k_is); (case hb => first | exact fun us h => (match us, h with | [_], _ => rfl) | exact fun us h => (match us, h with | [_, _], _ => rfl) | exact fun us h => (match us, h with | [_, _, _], _ => rfl) | exact fun us h => (match us, h with | [_, _, _, _], _ => rfl) | exact fun us h => (match us, h with | [_, _, _, _, _], _ => rfl) | exact fun us h => (match us, h with | [_, _, _, _, _, _], _ => rfl))))
    (case d_is_clock => (refine' Sd.fact_mk ?a ?l ?c ?k ?hb; (case a => k_is); (case l => k_is); (case c => k_is); (case k => k_is); (case hb => first | exact fun us h => (match us, h with | [_], _ => rfl) | exact fun us h => (match us, h with | [_, _], _ => rfl) | exact fun us h => (match us, h with | [_, _, _], _ => rfl) | exact fun us h => (match us, h with | [_, _, _, _], _ => rfl) | exact fun us h => (match us, h with | [_, _, _, _, _], _ => rfl) | exact fun us h => (match us, h with | [_, _, _, _, _, _], _ => rfl))))
    (case d_are_pages => (refine' Sd.fact_mk ?a ?l ?c ?k ?hb; (case a => k_is); (case l => k_is); (case c => k_is); (case k => k_is); (case hb => first | exact fun us h => (match us, h with | [_], _ => rfl) | exact fun us h => (match us, h with | [_, _], _ => rfl) | exact fun us h => (match us, h with | [_, _, _], _ => rfl) | exact fun us h => (match us, h with | [_, _, _, _], _ => rfl) | exact fun us h => (match us, h with | [_, _, _, _, _], _ => rfl) | exact fun us h => (match us, h with | [_, _, _, _, _, _], _ => rfl))))
    (case d_is_set => (refine' Sd.fact_mk ?a ?l ?c ?k ?hb; (case a => k_is); (case l => k_is); (case c => k_is); (case k => k_is); (case hb => first | exact fun us h => (match us, h with | [_], _ => rfl) | exact fun us h => (match us, h with | [_, _], _ => rfl) | exact fun us h => (match us, h with | [_, _, _], _ => rfl) | exact fun us h => (match us, h with | [_, _, _, _], _ => rfl) | exact fun us h => (match us, h with | [_, _, _, _, _], _ => rfl) | exact fun us h => (match us, h with | [_, _, _, _, _, _], _ => rfl))))
    (case d__law_take => (refine' Sd.fact_mk ?a ?l ?c ?k ?hb; (case a => k_is); (case l => k_is); (case c => k_is); (case k => k_is); (case hb => first | exact fun us h => (match us, h with | [_], _ => rfl) | exact fun us h => (match us, h with | [_, _], _ => rfl) | exact fun us h => (match us, h with | [_, _, _], _ => rfl) | exact fun us h => (match us, h with | [_, _, _, _], _ => rfl) | exact fun us h => (match us, h with | [_, _, _, _, _], _ => rfl) | exact fun us h => (match us, h with | [_, _, _, _, _, _], _ => rfl))))
    (case d__law_pot_of => (refine' Sd.fact_mk ?a ?l ?c ?k ?hb; (case a => k_is); (case l => k_is); (case c => k_is); (case k => k_is); (case hb => first | exact fun us h => (match us, h with | [_], _ => rfl) | exact fun us h => (match us, h with | [_, _], _ => rfl) | exact fun us h => (match us, h with | [_, _, _], _ => rfl) | exact fun us h => (match us, h with | [_, _, _, _], _ => rfl) | exact fun us h => (match us, h with | [_, _, _, _, _], _ => rfl) | exact fun us h => (match us, h with | [_, _, _, _, _, _], _ => rfl))))
    (case d__law_of => (refine' Sd.fact_mk ?a ?l ?c ?k ?hb; (case a => k_is); (case l => k_is); (case c => k_is); (case k => k_is); (case hb => first | exact fun us h => (match us, h with | [_], _ => rfl) | exact fun us h => (match us, h with | [_, _], _ => rfl) | exact fun us h => (match us, h with | [_, _, _], _ => rfl) | exact fun us h => (match us, h with | [_, _, _, _], _ => rfl) | exact fun us h => (match us, h with | [_, _, _, _, _], _ => rfl) | exact fun us h => (match us, h with | [_, _, _, _, _, _], _ => rfl))))
    (case d__law_some_steps => (refine' Sd.fact_mk ?a ?l ?c ?k ?hb; (case a => k_is); (case l => k_is); (case c => k_is); (case k => k_is); (case hb => first | exact fun us h => (match us, h with | [_], _ => rfl) | exact fun us h => (match us, h with | [_, _], _ => rfl) | exact fun us h => (match us, h with | [_, _, _], _ => rfl) | exact fun us h => (match us, h with | [_, _, _, _], _ => rfl) | exact fun us h => (match us, h with | [_, _, _, _, _], _ => rfl) | exact fun us h => (match us, h with | [_, _, _, _, _, _], _ => rfl))))
    (case d__law_lore => (refine' Sd.fact_mk ?a ?l ?c ?k ?hb; (case a => k_is); (case l => k_is); (case c => k_is); (case k => k_is); (case hb => first | exact fun us h => (match us, h with | [_], _ => rfl) | exact fun us h => (match us, h with | [_, _], _ => rfl) | exact fun us h => (match us, h with | [_, _, _], _ => rfl) | exact fun us h => (match us, h with | [_, _, _, _], _ => rfl) | exact fun us h => (match us, h with | [_, _, _, _, _], _ => rfl) | exact fun us h => (match us, h with | [_, _, _, _, _, _], _ => rfl))))
    (case d__law_sets_of => (refine' Sd.fact_mk ?a ?l ?c ?k ?hb; (case a => k_is); (case l => k_is); (case c => k_is); (case k => k_is); (case hb => first | exact fun us h => (match us, h with | [_], _ => rfl) | exact fun us h => (match us, h with | [_, _], _ => rfl) | exact fun us h => (match us, h with | [_, _, _], _ => rfl) | exact fun us h => (match us, h with | [_, _, _, _], _ => rfl) | exact fun us h => (match us, h with | [_, _, _, _, _], _ => rfl) | exact fun us h => (match us, h with | [_, _, _, _, _, _], _ => rfl))))
    (case d__law_step => (refine' Sd.fact_mk ?a ?l ?c ?k ?hb; (case a => k_is); (case l => k_is); (case c => k_is); (case k => k_is); (case hb => first | exact fun us h => (match us, h with | [_], _ => rfl) | exact fun us h => (match us, h with | [_, _], _ => rfl) | exact fun us h => (match us, h with | [_, _, _], _ => rfl) | exact fun us h => (match us, h with | [_, _, _, _], _ => rfl) | exact fun us h => (match us, h with | [_, _, _, _, _], _ => rfl) | exact fun us h => (match us, h with | [_, _, _, _, _, _], _ => rfl))))
    (case d__law_later => (refine' Sd.fact_mk ?a ?l ?c ?k ?hb; (case a => k_is); (case l => k_is); (case c => k_is); (case k => k_is); (case hb => first | exact fun us h => (match us, h with | [_], _ => rfl) | exact fun us h => (match us, h with | [_, _], _ => rfl) | exact fun us h => (match us, h with | [_, _, _], _ => rfl) | exact fun us h => (match us, h with | [_, _, _, _], _ => rfl) | exact fun us h => (match us, h with | [_, _, _, _, _], _ => rfl) | exact fun us h => (match us, h with | [_, _, _, _, _, _], _ => rfl))))
    (case d__law_ticks => (refine' Sd.fact_mk ?a ?l ?c ?k ?hb; (case a => k_is); (case l => k_is); (case c => k_is); (case k => k_is); (case hb => first | exact fun us h => (match us, h with | [_], _ => rfl) | exact fun us h => (match us, h with | [_, _], _ => rfl) | exact fun us h => (match us, h with | [_, _, _], _ => rfl) | exact fun us h => (match us, h with | [_, _, _, _], _ => rfl) | exact fun us h => (match us, h with | [_, _, _, _, _], _ => rfl) | exact fun us h => (match us, h with | [_, _, _, _, _, _], _ => rfl))))
    (case d__law_touched => (refine' Sd.fact_mk ?a ?l ?c ?k ?hb; (case a => k_is); (case l => k_is); (case c => k_is); (case k => k_is); (case hb => first | exact fun us h => (match us, h with | [_], _ => rfl) | exact fun us h => (match us, h with | [_, _], _ => rfl) | exact fun us h => (match us, h with | [_, _, _], _ => rfl) | exact fun us h => (match us, h with | [_, _, _, _], _ => rfl) | exact fun us h => (match us, h with | [_, _, _, _, _], _ => rfl) | exact fun us h => (match us, h with | [_, _, _, _, _, _], _ => rfl))))
    (case d__law_drawn_watch => (refine' Sd.fact_mk ?a ?l ?c ?k ?hb; (case a => k_is); (case l => k_is); (case c => k_is); (case k => k_is); (case hb => first | exact fun us h => (match us, h with | [_], _ => rfl) | exact fun us h => (match us, h with | [_, _], _ => rfl) | exact fun us h => (match us, h with | [_, _, _], _ => rfl) | exact fun us h => (match us, h with | [_, _, _, _], _ => rfl) | exact fun us h => (match us, h with | [_, _, _, _, _], _ => rfl) | exact fun us h => (match us, h with | [_, _, _, _, _, _], _ => rfl))))
    (case d__law_drawn_run => (refine' Sd.fact_mk ?a ?l ?c ?k ?hb; (case a => k_is); (case l => k_is); (case c => k_is); (case k => k_is); (case hb => first | exact fun us h => (match us, h with | [_], _ => rfl) | exact fun us h => (match us, h with | [_, _], _ => rfl) | exact fun us h => (match us, h with | [_, _, _], _ => rfl) | exact fun us h => (match us, h with | [_, _, _, _], _ => rfl) | exact fun us h => (match us, h with | [_, _, _, _, _], _ => rfl) | exact fun us h => (match us, h with | [_, _, _, _, _, _], _ => rfl))))
    (case d__law_made => (refine' Sd.fact_mk ?a ?l ?c ?k ?hb; (case a => k_is); (case l => k_is); (case c => k_is); (case k => k_is); (case hb => first | exact fun us h => (match us, h with | [_], _ => rfl) | exact fun us h => (match us, h with | [_, _], _ => rfl) | exact fun us h => (match us, h with | [_, _, _], _ => rfl) | exact fun us h => (match us, h with | [_, _, _, _], _ => rfl) | exact fun us h => (match us, h with | [_, _, _, _, _], _ => rfl) | exact fun us h => (match us, h with | [_, _, _, _, _, _], _ => rfl))))
    (case d__law_fewer => (refine' Sd.fact_mk ?a ?l ?c ?k ?hb; (case a => k_is); (case l => k_is); (case c => k_is); (case k => k_is); (case hb => first | exact fun us h => (match us, h with | [_], _ => rfl) | exact fun us h => (match us, h with | [_, _], _ => rfl) | exact fun us h => (match us, h with | [_, _, _], _ => rfl) | exact fun us h => (match us, h with | [_, _, _, _], _ => rfl) | exact fun us h => (match us, h with | [_, _, _, _, _], _ => rfl) | exact fun us h => (match us, h with | [_, _, _, _, _, _], _ => rfl))))
    (case d__law_is_left => (refine' Sd.fact_mk ?a ?l ?c ?k ?hb; (case a => k_is); (case l => k_is); (case c => k_is); (case k => k_is); (case hb => first | exact fun us h => (match us, h with | [_], _ => rfl) | exact fun us h => (match us, h with | [_, _], _ => rfl) | exact fun us h => (match us, h with | [_, _, _], _ => rfl) | exact fun us h => (match us, h with | [_, _, _, _], _ => rfl) | exact fun us h => (match us, h with | [_, _, _, _, _], _ => rfl) | exact fun us h => (match us, h with | [_, _, _, _, _, _], _ => rfl))))
    (case d__law_is_less => (refine' Sd.fact_mk ?a ?l ?c ?k ?hb; (case a => k_is); (case l => k_is); (case c => k_is); (case k => k_is); (case hb => first | exact fun us h => (match us, h with | [_], _ => rfl) | exact fun us h => (match us, h with | [_, _], _ => rfl) | exact fun us h => (match us, h with | [_, _, _], _ => rfl) | exact fun us h => (match us, h with | [_, _, _, _], _ => rfl) | exact fun us h => (match us, h with | [_, _, _, _, _], _ => rfl) | exact fun us h => (match us, h with | [_, _, _, _, _, _], _ => rfl))))
    (case d__law_right => (refine' Sd.fact_mk ?a ?l ?c ?k ?hb; (case a => k_is); (case l => k_is); (case c => k_is); (case k => k_is); (case hb => first | exact fun us h => (match us, h with | [_], _ => rfl) | exact fun us h => (match us, h with | [_, _], _ => rfl) | exact fun us h => (match us, h with | [_, _, _], _ => rfl) | exact fun us h => (match us, h with | [_, _, _, _], _ => rfl) | exact fun us h => (match us, h with | [_, _, _, _, _], _ => rfl) | exact fun us h => (match us, h with | [_, _, _, _, _, _], _ => rfl))))
    (case ini => (refine' Sd.ini_mk ?mk ?ia ?ifn ?kC ?il ?ic ?ik ?ihb; (case mk => k_is); (case ia => k_is); (case ifn => k_is); (case kC => k_is); (case il => k_is); (case ic => k_is); (case ik => k_is); (case ihb => first | exact fun us h => (match us, h with | [_], _ => rfl) | exact fun us h => (match us, h with | [_, _], _ => rfl) | exact fun us h => (match us, h with | [_, _, _], _ => rfl) | exact fun us h => (match us, h with | [_, _, _, _], _ => rfl) | exact fun us h => (match us, h with | [_, _, _, _, _], _ => rfl) | exact fun us h => (match us, h with | [_, _, _, _, _, _], _ => rfl))))
    (case m__check_step => (refine' Sd.meth_mk ?a ?fn ?l ?c ?k ?hb; (case a => k_is); (case fn => k_is); (case l => k_is); (case c => k_is); (case k => k_is); (case hb => first | exact fun us h => (match us, h with | [_], _ => rfl) | exact fun us h => (match us, h with | [_, _], _ => rfl) | exact fun us h => (match us, h with | [_, _, _], _ => rfl) | exact fun us h => (match us, h with | [_, _, _, _], _ => rfl) | exact fun us h => (match us, h with | [_, _, _, _, _], _ => rfl) | exact fun us h => (match us, h with | [_, _, _, _, _, _], _ => rfl))))
    (case m_page => (refine' Sd.meth_mk ?a ?fn ?l ?c ?k ?hb; (case a => k_is); (case fn => k_is); (case l => k_is); (case c => k_is); (case k => k_is); (case hb => first | exact fun us h => (match us, h with | [_], _ => rfl) | exact fun us h => (match us, h with | [_, _], _ => rfl) | exact fun us h => (match us, h with | [_, _, _], _ => rfl) | exact fun us h => (match us, h with | [_, _, _, _], _ => rfl) | exact fun us h => (match us, h with | [_, _, _, _, _], _ => rfl) | exact fun us h => (match us, h with | [_, _, _, _, _, _], _ => rfl))))
    (case m_is_run => (refine' Sd.meth_mk ?a ?fn ?l ?c ?k ?hb; (case a => k_is); (case fn => k_is); (case l => k_is); (case c => k_is); (case k => k_is); (case hb => first | exact fun us h => (match us, h with | [_], _ => rfl) | exact fun us h => (match us, h with | [_, _], _ => rfl) | exact fun us h => (match us, h with | [_, _, _], _ => rfl) | exact fun us h => (match us, h with | [_, _, _, _], _ => rfl) | exact fun us h => (match us, h with | [_, _, _, _, _], _ => rfl) | exact fun us h => (match us, h with | [_, _, _, _, _, _], _ => rfl))))
    (case p_clock => (refine' Sd.prop_mk ?a ?g ?t ?r ?l ?c ?k ?hb; (case a => k_is); (case g => k_is); (case t => k_is); (case r => k_is); (case l => k_is); (case c => k_is); (case k => k_is); (case hb => first | exact fun us h => (match us, h with | [_], _ => rfl) | exact fun us h => (match us, h with | [_, _], _ => rfl) | exact fun us h => (match us, h with | [_, _, _], _ => rfl) | exact fun us h => (match us, h with | [_, _, _, _], _ => rfl) | exact fun us h => (match us, h with | [_, _, _, _, _], _ => rfl) | exact fun us h => (match us, h with | [_, _, _, _, _, _], _ => rfl))))
    (case p_pages => (refine' Sd.prop_mk ?a ?g ?t ?r ?l ?c ?k ?hb; (case a => k_is); (case g => k_is); (case t => k_is); (case r => k_is); (case l => k_is); (case c => k_is); (case k => k_is); (case hb => first | exact fun us h => (match us, h with | [_], _ => rfl) | exact fun us h => (match us, h with | [_, _], _ => rfl) | exact fun us h => (match us, h with | [_, _, _], _ => rfl) | exact fun us h => (match us, h with | [_, _, _, _], _ => rfl) | exact fun us h => (match us, h with | [_, _, _, _, _], _ => rfl) | exact fun us h => (match us, h with | [_, _, _, _, _, _], _ => rfl))))
    (case comb => k_is)
    (case cls => kernel_rfl)
    (case noa => kernel_rfl)
    (case blt => kernel_rfl)

