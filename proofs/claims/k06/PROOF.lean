import PyProof.Rows.All
import Wide.All
import OpenK.AllK
import Wide.FinOn
import HandS.ForMost
import HandS.GenList
import HandS.AnyAll
import HandS.Lambda
import HandS.EndTab
import HandS.Conv
import HandS.Style
import HandS.IsInst
import KE.GoesEnum
import HandS.Zip
import HandS.NoneIn
import HandS.Iter
import HandS.Comp
import HandS.Wide
import HandS.TupAny
import HandS.TupLe
import HandS.TupMul
import HandS.SortInts
import HandS.SetFor
import PyProof.ReprRoads
import HandS.ReCall
import HandS.Dict
import HandS.Small
import HandS.WideBits
import HandS.WideMore
import HandS.More
import KE.BitLaws
import PyProof.NoPylong
import KE.DataMinMax
import KE.SortData
import PyProof.Rows.RowBridgeK
import PyProof.Rows.StrInSeq3
import HandS.EndOwn
import PySem.Challenge.RW_lotthrows_k06_whole_throws_card_by_card
set_option Elab.async false
set_option linter.all false
set_option maxRecDepth 100000
set_option maxHeartbeats 2000000
/-! generator expressions that a built-in draws from, the element any expression of the layer -/
namespace GA
open PySem PySem.Spec PyProof.Rows L2 GenW

/-- the frame of a generator expression that runs -/
abbrev gx (X : Cx) (s : Shared) (H : Hp) (scope : Scope) (ge : Env) (fp : List Addr) (pn : List (Addr × Obj)) : Cx :=
  { X with s_0 := s, H_0 := H, A := X.A.in1.in1.deeper ge, env := ge, outer := X.stack,
           stack := ge :: X.stack, ex := fp, fn := fun _ => false, pn := pn, xe := fun _ _ => False }

abbrev gEnv (X : Cx) (scope : Scope) (C : Addr) (code : Value) : Env :=
  genEnv scope (cloFrom X.env.cells scope.names []) C code builtinsNs X.env

structure GScp (scope : Scope) : Prop where
  co : scope.isCoroutine = false
  nocell : ∀ y ∈ scope.names, y.2 ≠ NameKind.cell
  dot : scope.names.lookup (".0" : Str) = some NameKind.local

section
variable {X : Cx} {pins : List (Addr × Obj)} {σ : L2.St} {H : Hp} {s : Shared}

theorem frame_start {scope : Scope} {own : List (Str × Nat)} {fp : List Addr} {code : Value} {itv : Value} {h1 : Heap} {go : Obj} {gs : Array GenState} {tk : Nat}
    (I : Inv X pins σ H s) (ok : BlkOk X.N X.env.scope scope own) (sc : GScp scope) (hN : X.N.Nodup)
    (hfp : ∀ b ∈ fp, FpOk X pins H b ∧ b < s.heap.objs.size)
    (hns : h1.Ns s.heap.objs.size (fun y => if y = (".0" : Str) then some itv else none))
    (hsb : Heap.SameBut s.heap.objs.size (s.heap.push { cls := .type "frame", data := .dict #[] }) h1)
    (hgo : ∀ v, go.data ≠ .cell v) (hgp : (h1.push go).get? h1.objs.size = some go) (hgs : AllBare gs) :
    Inv (gx X s H scope (gEnv X scope s.heap.objs.size code) fp [(h1.objs.size, go)]) [] (wipe σ (own.map (·.2))) H
      { s with gens := gs, toks := tk, heap := h1.push go } := by
  have hfree : ∀ y ∈ scope.names, y.2 = .free → ∃ c, X.env.cells.lookup y.1 = some c := fun y hy e =>
    (ok.free y hy e).elim (fun k => I.ok.has _ (.inl k)) (fun k => I.ok.has _ (.inr k))
  have sz1 : h1.objs.size = s.heap.objs.size + 1 := by rw [hsb.1, Heap.size_push]
  have k1 : ∀ b o, s.heap.get? b = some o → h1.get? b = some o := fun b o e =>
    hsb.extBut b o (Nat.ne_of_lt (Heap.lt_size e)) (Heap.get?_push_of_some _ e)
  have k2 : ∀ b o, s.heap.get? b = some o → (h1.push go).get? b = some o := fun b o e => Heap.get?_push_of_some _ (k1 b o e)
  have cm : ∀ {y c}, (y, c) ∈ cloFrom X.env.cells scope.names [] → X.env.cells.lookup y = some c ∧ c < s.heap.objs.size := fun {y c} hm => by
    rcases cloFrom_mem hm with hm | ⟨q1, rfl⟩
    · cases hm
    · obtain ⟨c, hc⟩ := hfree _ q1 rfl
      rw [hc]
      obtain ⟨w, z⟩ := I.cell _ _ hc
      exact ⟨rfl, z.lt⟩
  have cl : ∀ {y c}, (cloFrom X.env.cells scope.names []).lookup y = some c → X.env.cells.lookup y = some c ∧ c < s.heap.objs.size :=
    fun {y c} e => cm (PySem.mem_of_lookup e)
  have look : ∀ {y}, scope.names.lookup y = some .free → ∃ c, (cloFrom X.env.cells scope.names []).lookup y = some c ∧ X.env.cells.lookup y = some c := fun {y} hl => by
    obtain ⟨c', e'⟩ := mem_lookup (cloFrom_has (cells := X.env.cells) (acc := []) (PySem.mem_of_lookup hl))
    exact ⟨c', e', (cl e').1⟩
  have okG : (gx X s H scope (gEnv X scope s.heap.objs.size code) fp [(h1.objs.size, go)]).Ok := by
    refine ⟨I.ok.mod, ok.kind, I.ok.glob, rfl, Nat.le_refl _, fun y z c e1 e2 => ?_, fun y hy => ?_, fun y c z _ => ?_, fun hc => I.ok.hd hc, ?_, .inr ⟨rfl, rfl⟩,
      fun b hb => ⟨?_, fun y c e z => ?_⟩, I.bs, Nat.le_trans I.ok.bsz I.sz, fun b o e hb => ?_, fun b hb z => ?_, I.stack, I.stkFree⟩
    · exact I.ok.inj y z c (cl e1).1 (cl e2).1
    · have hy : scope.names.lookup y = some .cell ∨ scope.names.lookup y = some .free := hy
      rcases hy with hy | hy
      · exact absurd rfl (sc.nocell _ (PySem.mem_of_lookup hy))
      · obtain ⟨c, h1, _⟩ := look hy
        exact ⟨c, h1⟩
    · have z : false = true := z
      cases z
    · exact Around.frames_deeper (show X.A.in1.in1.frames = some X.stack from I.ok.frames)
    · show b ≠ s.heap.objs.size
      exact Nat.ne_of_lt (hfp b hb).2
    · have e : (cloFrom X.env.cells scope.names []).lookup y = some c := e
      exact (hfp b hb).1.2.2.2.2.1 y c (cl e).1 z
    · rcases (hfp b hb).1.2.2.2.1 with z | z
      · exact I.ok.noex b o e z
      · exact absurd (Nat.lt_of_lt_of_le (Heap.lt_size e) (Nat.le_trans I.ok.bsz z)) (Nat.lt_irrefl _)
    · rcases List.mem_cons.mp (I.stkSub b z) with z | z
      · exact (hfp b hb).1.2.1 z
      · exact (hfp b hb).1.2.2.1 z
  refine ⟨okG, rfl, hgs, Un.kept k2, ⟨_, hns.push _, fun i y av e1 e2 e3 => ?_⟩, fun y c e => ?_, I.hok.fresh (Nat.le_refl _), fun y c e => ?_, fun p hp => ?_, I.hok.kept k2, by rw [wipe_length]; exact I.len⟩
  · obtain ⟨e2, hne⟩ := wipe_some e2
    have e1 : X.N[i]? = some y := e1
    have no : ∀ k, scope.names.lookup y = some k → k = .local ∨ k = .cell → False := fun k hk hh => by
      rcases ok.own _ (PySem.mem_of_lookup hk) hh with e' | e'
      · obtain ⟨p, hp, hpy⟩ := List.mem_map.mp e'
        have e4 := ok.ix p hp
        have : p.1 = y := hpy
        rw [this] at e4
        exact hne (List.mem_map.mpr ⟨p, hp, nodup_ix hN e4 e1⟩)
      · exact e' (List.mem_of_getElem? e1)
    have e3 : Vis scope y := e3
    have hf : scope.names.lookup y = some .free := by
      rcases e3 with e3 | e3 | e3
      · exact (no _ e3 (.inl rfl)).elim
      · exact (no _ e3 (.inr rfl)).elim
      · exact e3
    obtain ⟨m, hn, hl⟩ := I.loc
    have fr := ok.free _ (PySem.mem_of_lookup hf) rfl
    have hvis : Vis X.env.scope y := fr.elim (fun k => .inr (.inl k)) (fun k => .inr (.inr k))
    obtain ⟨w, r, q⟩ := hl i y av e1 e2 hvis
    obtain ⟨c, q1, q2⟩ := look hf
    refine ⟨w, r, .inr ⟨.inr hf, c, q1, ?_⟩⟩
    rcases q with ⟨k, _⟩ | ⟨_, c', e', z⟩
    · have k : X.env.scope.names.lookup y = some .local := k
      rcases fr with k' | k' <;> rw [show X.env.scope.names.lookup y = _ from k'] at k <;> cases k
    · rw [q2] at e'; cases e'
      exact z.keeps k2
  · have e : (cloFrom X.env.cells scope.names []).lookup y = some c := e
    obtain ⟨w, z⟩ := I.cell y c (cl e).1
    exact ⟨w, z.keeps k2⟩
  · have e : (cloFrom X.env.cells scope.names []).lookup y = some c := e
    exact I.freeC y c (cl e).1
  · rw [List.append_nil] at hp
    have hp : p ∈ [(h1.objs.size, go)] := hp
    rw [List.mem_singleton.mp hp]
    have ge1 : s.heap.objs.size ≤ h1.objs.size := by omega
    refine ⟨hgp, I.hok.fresh ge1, ?_, ?_, hgo⟩
    · show h1.objs.size ≠ s.heap.objs.size
      omega
    · intro z
      have z : h1.objs.size ∈ frs X.stack := z
      rcases List.mem_cons.mp (I.stkSub _ z) with z | z
      · have := I.lt
        rw [← z] at this
        exact absurd (Nat.lt_of_lt_of_le this ge1) (Nat.lt_irrefl _)
      · exact I.nofs ge1 z
end
end GA

set_option Elab.async false
set_option linter.all false
set_option maxRecDepth 100000
set_option maxHeartbeats 2000000
namespace GA
open PySem PySem.Spec PyProof.Rows L2 GenW

/-- a generator expression that has not begun: it stands at a, all is as at s2 but what is new -/
structure Ready (X : Cx) (pins : List (Addr × Obj)) (σ : L2.St) (e tg : Expr) (scope : Scope) (vs : List Nat) (R : It → Hp → Prop) (a : Addr) (s5 : Shared) : Prop where
  ex : ∃ (it : Addr) (g : Nat) (fp : List Addr) (tn : Nat → Heap → Prop) (J : It) (H2 : Hp) (s2 : Shared) (code : Value) (go : Obj),
    Inv X pins σ H2 s2 ∧ (∀ b ∈ fp, FpOk X pins H2 b ∧ b < s2.heap.objs.size) ∧ Turn X.prog X.w X.K tg J fp it tn ∧ tn 0 s5.heap ∧
    Inv (gx X s2 H2 scope (gEnv X scope s2.heap.objs.size code) fp [(a, go)]) [] (wipe σ vs) H2 s5 ∧
    s5.gens[g]? = some (.fresh (.compStart e 0 (.ref it) .none (gEnv X scope s2.heap.objs.size code))) ∧
    (∀ h : Heap, h.get? a = some go → h.IsGen a g) ∧ s2.heap.objs.size ≤ a ∧ R J H2

section
variable {X : Cx} {pins : List (Addr × Obj)} {σ : L2.St} {H : Hp} {s : Shared}
theorem made {c P : Addr} {elt tg iter : Expr} {ifs : List Expr} {scope : Scope} {own : List (Str × Nat)} {gpos : Pos} {wi : TI} {Q : Value → Shared → Prop} {R : It → Hp → Prop}
    (hc : X.calm = true) (hdp : X.A.depth < recursionLimit) (hN : X.N.Nodup) (TB : GxR.TabB X.base X.mg c P) (hcode : X.env.code = .ref c) (ok : BlkOk X.N X.env.scope scope own) (sc : GScp scope)
    (hi : PI X tg iter wi) (hs : ∀ v, genFold iter X.env v = pure v) (I : Inv X pins σ H s)
    (h : wi σ H fun J H1 => GxR.TabG H1 P ∧ ∀ H2, GxR.Tabbed P H1 H2 → R J H2)
    (hQ : ∀ a s5, Ready X pins σ (.GeneratorExp elt [⟨tg, iter, ifs, 0⟩] scope gpos) tg scope (own.map (·.2)) R a s5 → Q (.ref a) s5) :
    wpAny (model X.prog X.w) X.A (eval (.GeneratorExp elt [⟨tg, iter, ifs, 0⟩] scope gpos) X.env) Q X.xe s := by
  have hfree : ∀ y ∈ scope.names, y.2 = .free → ∃ c, X.env.cells.lookup y.1 = some c := fun y hy e =>
    (ok.free y hy e).elim (fun k => I.ok.has _ (.inl k)) (fun k => I.ok.has _ (.inr k))
  refine wpAny_GeneratorExp_make sc.co (closure_ok hfree) sc.nocell sc.dot ok.kind hdp ?_ hs
  refine thn (hi.run pins s σ H _ I h) fun xv s1 hx => thn hx fun itv s2 h2 => ?_
  obtain ⟨it, fp, tn, J, H2, e, I2, T, st2, f2, ⟨ps, hP, ht⟩, q⟩ := h2
  subst e
  have hPs : s2.heap.get? P = some { cls := .none, data := .fields ps } := I2.hok P _ hP
  have cd : PySem.W.CodeHd s2.heap c P := TB.code.keeps fun b u e => I2.bk b u e
  refine ⟨I2.nolimit, ?_⟩
  -- what follows the code object, its table grown by more
  have cont : ∀ (code : Value) (h3 : Heap) (tk : Nat) (more : Array Value), Heap.ExtBut P s2.heap h3 → s2.heap.objs.size ≤ h3.objs.size →
      h3.get? P = some { cls := .none, data := .fields (ps ++ more) } → TriplesOk (ps ++ more).toList →
      wpAny (model X.prog X.w) X.A (builtinsFor X.env.globals X.env.builtins) (fun bi s4 =>
        ∀ h', h'.Ns s4.heap.objs.size (fun y => if y = (".0" : Str) then some (.ref it) else none) → Heap.SameBut s4.heap.objs.size (s4.heap.push { cls := .type "frame", data := .dict #[] }) h' →
          Q (.ref h'.objs.size) { s4 with
            gens := s4.gens.push (.fresh (.compStart (.GeneratorExp elt [⟨tg, iter, ifs, 0⟩] scope gpos) 0 (.ref it) .none (genEnv scope (cloFrom X.env.cells scope.names []) s4.heap.objs.size code bi X.env))),
            toks := s4.toks + 1 + 1 + 1,
            heap := h'.push { cls := .type "generator", data := .fields #[.int s4.gens.size 0, .str "<genexpr>" (s4.toks + 1), .str (X.env.qual ++ "<genexpr>") (s4.toks + 1 + 1)] } }) X.xe { s2 with heap := h3, toks := tk } := by
    intro code h3 tk more hx hsz hP3 ht3
    obtain ⟨bm, ob, e1, e2, e3, e4, e5, e6, e7, e8⟩ := TB.bm
    have keep3 : ∀ b u, b ≠ P → s2.heap.get? b = some u → h3.get? b = some u := fun b u hb e => hx b u hb e
    have J3 : Inv X pins σ (upd H2 P (.tbl (ps ++ more))) { s2 with heap := h3, toks := tk } :=
      GxR.inv_tab (more := more) (h' := h3) (g' := s2.gens) (d' := s2.drawn) (t' := tk) I2 hP keep3 hP3 I2.bare
    refine wpAny_builtinsFor (m := X.mg) (by rw [J3.ok.glob]; exact J3.mod.glob.keeps J3.bk) e1 e2 (keep3 _ _ e4 (I2.bk _ _ e5)) e6 e7 e8 ?_
    intro h4 hn4 hs4
    refine hQ _ _ ⟨it, s2.gens.size, fp, tn, J, upd H2 P (.tbl (ps ++ more)), { s2 with heap := h3, toks := tk }, code,
      { cls := .type "generator", data := .fields #[.int s2.gens.size 0, .str "<genexpr>" (tk + 1), .str (X.env.qual ++ "<genexpr>") (tk + 1 + 1)] }, J3, ?_, T, ?_, ?_, Array.getElem?_push_size .., ?_, ?_, ?_⟩
    · intro b hb
      obtain ⟨o, e, _⟩ := T.obj _ _ st2 b hb
      have nb : b ≠ P := fun z => by
        have := (f2 b hb).1
        rw [z, hP] at this
        cases this
      refine ⟨⟨?_, (f2 b hb).2⟩, Nat.lt_of_lt_of_le (Heap.lt_size e) hsz⟩
      rw [upd_ne nb]
      exact (f2 b hb).1
    · refine T.keep _ _ _ st2 fun b hb o e => ?_
      have nb : b ≠ P := fun z => by
        have := (f2 b hb).1
        rw [z, hP] at this
        cases this
      have e3' := keep3 b o nb e
      exact Heap.get?_push_of_some _ (hs4.extBut b o (Nat.ne_of_lt (Heap.lt_size e3')) (Heap.get?_push_of_some _ e3'))
    · refine frame_start J3 ok sc hN (fun b hb => ?_) hn4 hs4 (fun v z => by cases z) (Heap.get?_push_size _ rfl) ?_
      · obtain ⟨o, e, _⟩ := T.obj _ _ st2 b hb
        have nb : b ≠ P := fun z => by
          have := (f2 b hb).1
          rw [z, hP] at this
          cases this
        refine ⟨⟨?_, (f2 b hb).2⟩, Nat.lt_of_lt_of_le (Heap.lt_size e) hsz⟩
        rw [upd_ne nb]
        exact (f2 b hb).1
      · exact AllBare.push I2.bare rfl
    · intro h e
      exact ⟨_, _, _, e, rfl, rfl, rfl⟩
    · have : h4.objs.size = h3.objs.size + 1 := by
        have z := hs4.1
        rw [Heap.size_push] at z
        exact z
      show h3.objs.size ≤ h4.objs.size
      omega
    · exact q _ ⟨⟨ps ++ more, upd_same, ht3⟩, fun b hb => upd_ne hb⟩
  cases hf : codeAmong gpos ps.toList with
  | none =>
    refine wpAny_genexprCodeX hcode (cd.code hPs ht) (cd.tab hPs) hf fun c' h' tk hx hge hlt hco' _ htab' _ => ?_
    obtain ⟨o1, vs1, f1, tf, fl, tg1, inF, tx, tt, op, _, _, _, _, _, _, _, _, _, htr, _⟩ := hco'
    exact cont _ h' tk _ hx (Nat.le_trans hge (Nat.le_of_lt hlt)) htab'.2 htr
  | some cv =>
    refine wpAny_genexprCode_hit hcode (cd.code hPs ht) hf ?_
    have := cont cv s2.heap s2.toks #[] (Heap.ExtBut.refl _ _) (Nat.le_refl _) (by simpa using hPs) (by simpa using ht)
    exact this
end
end GA

set_option Elab.async false
set_option linter.all false
set_option maxRecDepth 100000
set_option maxHeartbeats 2000000
namespace GA
open PySem PySem.Spec PyProof.Rows L2 GenW

theorem over_loop0 {A : Around} {elt : Expr} {cs : List Comprehension} {scope : Scope} {pos : Pos} {it acc : Value} {ge : Env} :
    A.over (.compLoop (.GeneratorExp elt cs scope pos) 0 it acc ge) [] = A.deeper ge := rfl
theorem over_start0 {A : Around} {elt : Expr} {cs : List Comprehension} {scope : Scope} {pos : Pos} {it acc : Value} {ge : Env} :
    A.over (.compStart (.GeneratorExp elt cs scope pos) 0 it acc ge) [] = A.deeper ge := rfl

/-- while the generator sleeps: all objects are kept -/
structure Slp (s s' : Shared) : Prop where
  os : s'.os = s.os
  bare : AllBare s'.gens
  keep : ∀ b o, s.heap.get? b = some o → s'.heap.get? b = some o
theorem Inv.slp {X : Cx} {pins : List (Addr × Obj)} {σ : L2.St} {H : Hp} {s s' : Shared} (I : Inv X pins σ H s) (z : Slp s s') : Inv X pins σ H s' :=
  I.call' (ch := []) z.os (Un.kept z.keep) (I.hok.kept z.keep) z.bare fun b hb => absurd hb (by simp)

/-- an item is out: y; what it decides of what follows is said by Dec -/
def YG (G : Cx) (Dec : V → Hp → (Hp → Prop) → Prop) : Protocol := fun _ _ v s kap =>
  ∃ y σ' H' Nx, RelV y v ∧ Inv G [] σ' H' s ∧ Dec y H' Nx ∧ ∀ s', Slp s s' → Nx H' → kap (.send .none) s'
def RG (G : Cx) (Fin : Hp → Prop) : GenEnd := fun _ _ r s => r = .ok .next ∧ ∃ σ' H', Inv G [] σ' H' s ∧ Fin H'
/-- what a turn is to reach -/
def Turns (J : It) (g : TG) (tt : TT) (te : TE) (vs : List Nat) (σ : L2.St) (Fin : Hp → Prop) (Dec : V → Hp → (Hp → Prop) → Prop) (W : Nat → Nat → Hp → Prop) : Prop :=
  ∀ i m H, W i m H → (J.stop i H ∧ Fin H) ∨ (J.go i H ∧ ∃ Nx : Hp → Prop, (∀ H', Nx H' → ∃ m', m' < m ∧ W (i + 1) m' H') ∧
    ∀ x H', J.yld i H x H' → g x (wipe σ vs) H' fun σ2 H2 => wipe σ2 vs = wipe σ vs ∧ tt σ2 H2 fun b H3 => if b = true then te σ2 H3 fun y H4 => Dec y H4 Nx else Nx H3)

section
variable {G : Cx} {Aw : Around} {elt tg iter : Expr} {ifs : List Expr} {scope : Scope} {gpos : Pos} {it : Addr} {fp : List Addr} {tn : Nat → Heap → Prop} {J : It}
  {g : TG} {tt : TT} {te : TE} {vs : List Nat} {σ : L2.St} {Fin : Hp → Prop} {Dec : V → Hp → (Hp → Prop) → Prop} {W : Nat → Nat → Hp → Prop}
theorem seg_turns (hA : G.A = Aw.deeper G.env) (hc : G.calm = true) (hex : ∀ b ∈ fp, b ∈ G.ex) (hxe : G.xe = fun _ _ => False) (hpn : ∀ p ∈ G.pn, p.1 ∉ fp) (hco : G.env.scope.isCoroutine = false)
    (T : Turn G.prog G.w G.K tg J fp it tn) (pg : PG G tg g) (pt : PTs G ifs tt) (pe : PE G elt te) (turn : Turns J g tt te vs σ Fin Dec W) :
    ∀ (m i n : Nat) (s₀ s : Shared) (H : Hp), m < n → W i m H → Inv G [] (wipe σ vs) H s → tn i s.heap → (∀ b ∈ fp, H b = none) →
      Seg (model G.prog G.w) Aw (RG G Fin) (YG G Dec) n s₀ (.compLoop (.GeneratorExp elt [⟨tg, iter, ifs, 0⟩] scope gpos) 0 (.ref it) .none G.env)
        ((model G.prog G.w).den (.compLoop (.GeneratorExp elt [⟨tg, iter, ifs, 0⟩] scope gpos) 0 (.ref it) .none G.env)) [] s := by
  intro m
  induction m using Nat.strongRecOn with
  | ind m ih =>
    intro i n s₀ s H hmn hW I st hn
    have stat : ∀ {σ' : L2.St} {H' : Hp} {s' : Shared}, Inv G [] σ' H' s' → (∀ b ∈ fp, H' b = none) → ∀ b ∈ fp, FpOk G [] H' b := fun {σ' H' s'} I' hn' b hb =>
      ⟨hn' b hb, (I'.ok.exf b (hex b hb)).1, I'.ok.exfs b (hex b hb), .inl (hex b hb), fun x c e => (I'.ok.exf b (hex b hb)).2 x c e, fun p hp z => by
        rw [List.append_nil] at hp
        exact hpn p hp (by rw [z]; exact hb)⟩
    show Seg _ Aw _ _ n s₀ _ ((compTurn (.GeneratorExp elt [⟨tg, iter, ifs, 0⟩] scope gpos) 0 (.ref it) .none G.env).onRaise (leaving G.env)) [] s
    rw [compTurn_gen, Sem.onRaise_eq_wrap]
    refine seg_bind_wrap (wpAny_standAt ?_)
    rcases turn i m H hW with ⟨hstop, hfin⟩ | ⟨hgo, Nx, hNx, step⟩
    · have td := T.done G rfl rfl rfl hc i [] s _ H (fun _ _ => False) I (stat I hn) st hstop
      refine seg_bind_wrap ?_
      rw [over_loop0, ← hA]
      refine thnF td fun r s1 ⟨hr, I1⟩ => ?_
      subst hr
      exact seg_end (.ok .next) ⟨rfl, _, _, I1, hfin⟩
    · have ti := T.item G rfl rfl rfl hc i [] s _ H (fun _ _ => False) I (stat I hn) st hgo
      refine seg_bind_wrap ?_
      rw [over_loop0, ← hA]
      refine thnF ti fun r s1 ⟨u, hr, h1⟩ => ?_
      subst hr
      refine seg_bind_wrap ?_
      rw [over_loop0, ← hA]
      refine thnF h1 fun _ s2 ⟨x, H2, I2, r2, y2, st2, n2⟩ => ?_
      have I2' := I2.pinned (stat I2 n2) (T.obj _ _ st2)
      refine seg_bind_wrap ?_
      rw [over_loop0, ← hA]
      have hpgr := pg.run _ s2 _ H2 x u _ I2' r2 (step x H2 y2)
      rw [hxe] at hpgr
      refine thnF hpgr fun _ s3 ⟨σ3, H3, I3, hw3, q3⟩ => ?_
      refine seg_bind_wrap ?_
      rw [over_loop0, ← hA]
      have hptr := pt.run _ s3 σ3 H3 _ I3 q3
      rw [hxe] at hptr
      refine thnF hptr fun b s4 ⟨H4, I4, q4⟩ => ?_
      have back : ∀ {s' : Shared} {H' : Hp}, Inv G ([] ++ pinsAt fp s2.heap) σ3 H' s' → Inv G [] (wipe σ vs) H' s' ∧ tn (i + 1) s'.heap ∧ ∀ b ∈ fp, H' b = none := fun {s' H'} I' => by
        have pin' : ∀ b ∈ fp, ∀ o, s2.heap.get? b = some o → s'.heap.get? b = some o ∧ H' b = none := fun b hb o e =>
          let z := I'.pin (b, o) (List.mem_append_right _ (List.mem_append_right _ (mem_pinsAt hb e)))
          ⟨z.1, z.2.1⟩
        have hl : (wipe σ vs).length = σ3.length := by rw [← hw3, wipe_length]
        refine ⟨(I'.unpinned (pins := [])).weak hl fun j v e => ?_, T.keep _ _ _ st2 fun b hb o e => (pin' b hb o e).1, fun b hb => ?_⟩
        · rw [← hw3] at e
          exact (wipe_some e).1
        · obtain ⟨o, e, _⟩ := T.obj _ _ st2 b hb
          exact (pin' b hb o e).2
      cases b with
      | false =>
        simp only [Bool.false_eq_true, if_false] at q4 ⊢
        obtain ⟨m', hm, w'⟩ := hNx H4 q4
        obtain ⟨J1, J2, J3⟩ := back I4
        exact seg_again rfl (ih m' hm (i + 1) n s₀ s4 H4 (by omega) w' J1 J2 J3)
      | true =>
        simp only [if_true] at q4 ⊢
        have hy : ∀ v, yieldOut G.env v = yieldValue v := fun v => by simp only [yieldOut, hco, Bool.false_eq_true, if_false]
        simp only [hy]
        rw [Sem.bind_eq_wrap', Sem.bind_eq_wrap', Sem.wrap_wrap, Sem.wrap_wrap]
        refine seg_wrap ?_
        rw [over_loop0, ← hA]
        have hper := pe.run _ s4 σ3 H4 _ I4 q4
        rw [hxe] at hper
        refine thnF hper fun z s5 ⟨yv, H5, I5, r5, dec⟩ => ?_
        obtain ⟨n', rfl⟩ : ∃ n', n = n' + 1 := ⟨n - 1, by omega⟩
        refine seg_at (seg_yield rfl rfl rfl ?_)
        refine ⟨yv, σ3, H5, Nx, r5, I5.unpinned (pins := []), dec, fun s' hz hnx => ?_⟩
        obtain ⟨m', hm, w'⟩ := hNx H5 hnx
        obtain ⟨J1, J2, J3⟩ := back (Inv.slp I5 hz)
        exact seg_again rfl (ih m' hm (i + 1) n' s' s' H5 (by omega) w' J1 J2 J3)

theorem seg_begin (hA : G.A = Aw.deeper G.env) (hc : G.calm = true) (hex : ∀ b ∈ fp, b ∈ G.ex) (hxe : G.xe = fun _ _ => False) (hpn : ∀ p ∈ G.pn, p.1 ∉ fp) (hco : G.env.scope.isCoroutine = false)
    (T : Turn G.prog G.w G.K tg J fp it tn) (pg : PG G tg g) (pt : PTs G ifs tt) (pe : PE G elt te) (turn : Turns J g tt te vs σ Fin Dec W)
    (m n : Nat) (s₀ s : Shared) (H : Hp) (hmn : m < n) (hW : W 0 m H) (I : Inv G [] (wipe σ vs) H s) (st : tn 0 s.heap) (hn : ∀ b ∈ fp, H b = none) :
    Seg (model G.prog G.w) Aw (RG G Fin) (YG G Dec) n s₀ (.compStart (.GeneratorExp elt [⟨tg, iter, ifs, 0⟩] scope gpos) 0 (.ref it) .none G.env)
      ((model G.prog G.w).den (.compStart (.GeneratorExp elt [⟨tg, iter, ifs, 0⟩] scope gpos) 0 (.ref it) .none G.env)) [] s := by
  have loop := seg_turns (iter := iter) (scope := scope) (gpos := gpos) hA hc hex hxe hpn hco T pg pt pe turn m 0 n s₀ s H hmn hW I st hn
  show Seg _ Aw _ _ n s₀ _ ((compStart (.GeneratorExp elt [⟨tg, iter, ifs, 0⟩] scope gpos) 0 (.ref it) .none G.env).onRaise (leaving G.env)) [] s
  unfold compStart
  rw [Sem.onRaise_eq_wrap]
  show Seg _ Aw _ _ _ s₀ _ ((ask >>= _).wrap _ _ _ _) [] s
  refine seg_bind_wrap (wpAny_askSetting ?_)
  split
  · exact seg_again rfl loop
  · refine seg_bind_wrap (wpAny_rule ?_)
    first
      | exact seg_bind_wrap (wpAny_standAt (seg_bind_wrap (T.self _ 0 s _ _ st (seg_again rfl loop))))
      | (show Seg _ Aw _ _ _ s₀ _ ((standAt iter.pos >>= _).wrap _ _ _ _) [] s; exact seg_bind_wrap (wpAny_standAt (seg_bind_wrap (T.self _ 0 s _ _ st (seg_again rfl loop)))))
end
end GA

set_option Elab.async false
set_option linter.all false
set_option maxRecDepth 100000
set_option maxHeartbeats 2000000
namespace GA
open PySem PySem.Spec PyProof.Rows L2 GenW

theorem slp_set {s : Shared} {g : Nat} {x : GenState} (h : AllBare s.gens) (hx : x.bare = true) : Slp s (s.setGen g x) :=
  ⟨rfl, allBare_setGen h hx, fun _ _ e => e⟩
theorem slp_setH {s : Shared} {g : Nat} {x : GenState} {h' : Heap} (h : AllBare s.gens) (hx : x.bare = true) (k : ∀ b o, s.heap.get? b = some o → h'.get? b = some o) :
    Slp s { s.setGen g x with heap := h' } := ⟨rfl, allBare_setGen h hx, k⟩

/-- d: True where the drawing goes on while an item is d (all: True, any: False) -/
def DecQ (d : Bool) (Out : Hp → Prop) : V → Hp → (Hp → Prop) → Prop := fun y H Nx => ∃ c, y = .bl c ∧ if c = d then Nx H else Out H

section
variable {G : Cx} {A0 : Around} {g : Nat} {a : Addr} {go : Obj} {Fin Out : Hp → Prop} {R : Result → Shared → Prop}
theorem all_turns (hh : A0.handled = none) (hroom : A0.depth < recursionLimit) (hgen : ∀ h : Heap, h.get? a = some go → h.IsGen a g) (hpn : G.pn = [(a, go)])
    (hfin : ∀ σ' H' s', Inv G [] σ' H' s' → Fin H' → R (.ok (.ret (.bool true))) s') (hout : ∀ σ' H' s', Inv G [] σ' H' s' → Out H' → R (.ok (.ret (.bool false))) s') :
    ∀ (n : Nat) (s : Shared) (gs : GenState) (σ1 : L2.St) (H1 : Hp), s.gens[g]? = some gs →
      gs.Goes (model G.prog G.w) A0.in1.in1 (RG G Fin) (YG G (DecQ true Out)) n (.send .none) (s.setGen g .running) → Inv G [] σ1 H1 s →
      codeAny (model G.prog G.w) A0 (.builtin "all.loop" ⟨[.ref a], []⟩) R s := by
  intro n
  induction n with
  | zero =>
    intro s gs σ1 H1 hgs hgo I
    have hg : s.heap.IsGen a g := hgen _ (I.pin (a, go) (List.mem_append_left _ (by rw [hpn]; exact List.mem_singleton.mpr rfl))).1
    refine codeAny_builtin F.entry_all_loop ?_
    rw [Around.under_plainId F.plain_all_loop _]
    show wpAny _ A0.in1 (pyNext (.ref a) >>= _) _ _ s
    refine wpAny_bind (wpAny_pyNext_genexpQ (P := fun _ _ s1 => ∃ σ' H', Inv G [] σ' H' s1 ∧ Fin H') hh I.nolimit hroom hg hgs hgo (fun v s1 gs' hb hv => ?_) fun s1 hp h' hk => ?_)
    · obtain ⟨y, σ', H', Nx, ry, I1, ⟨c, rfl, dec⟩, kap⟩ := hv
      cases ry
      have I2 : Inv G [] σ' H' (s1.setGen g gs') := Inv.slp I1 (slp_set I1.bare hb)
      refine wpAny_bind (wpAny_holding (wpAny_truthy_bool ?_))
      refine wpAny_bind (wpAny_letGo ?_)
      cases c with
      | true => exact (kap _ ⟨rfl, I1.bare, fun _ _ e => e⟩ (by simpa using dec)).elim
      | false =>
        simp only [Bool.false_eq_true, if_false]
        exact wpAny_bind (wpAny_rule (wpAny_pure (hout _ _ _ I2 (by simpa using dec))))
    · obtain ⟨σ', H', I1, hf⟩ := hp
      exact wpAny_bind (wpAny_rule (wpAny_pure (hfin _ _ _ (Inv.slp I1 (slp_setH I1.bare rfl hk)) hf)))
  | succ n ih =>
    intro s gs σ1 H1 hgs hgo I
    have hg : s.heap.IsGen a g := hgen _ (I.pin (a, go) (List.mem_append_left _ (by rw [hpn]; exact List.mem_singleton.mpr rfl))).1
    have hgl : g < s.gens.size := (Array.getElem?_eq_some_iff.mp hgs).1
    refine codeAny_builtin F.entry_all_loop ?_
    rw [Around.under_plainId F.plain_all_loop _]
    show wpAny _ A0.in1 (pyNext (.ref a) >>= _) _ _ s
    refine wpAny_bind (wpAny_gsz (n := g + 1) hgl (wpAny_pyNext_genexpQ (P := fun _ _ s1 => ∃ σ' H', Inv G [] σ' H' s1 ∧ Fin H') hh I.nolimit hroom hg hgs hgo (fun v s1 gs' hb hv => ?_) fun s1 hp h' hk => ?_))
    · intro hsz
      obtain ⟨y, σ', H', Nx, ry, I1, ⟨c, rfl, dec⟩, kap⟩ := hv
      cases ry
      have I2 : Inv G [] σ' H' (s1.setGen g gs') := Inv.slp I1 (slp_set I1.bare hb)
      have hsz1 : g < s1.gens.size := by
        have q : (s1.setGen g gs').gens.size = s1.gens.size := setGen_size _ _ _
        have hsz' : g + 1 ≤ (s1.setGen g gs').gens.size := hsz
        omega
      refine wpAny_bind (wpAny_holding (wpAny_truthy_bool ?_))
      refine wpAny_bind (wpAny_letGo ?_)
      cases c with
      | true =>
        simp only [if_true]
        refine wpAny_pure ⟨plainId_quiet F.plain_all_loop _, ih _ gs' σ' H' (setGen_at hsz1) ?_ I2⟩
        exact kap _ ⟨rfl, allBare_setGen (s := s1.setGen g gs') (allBare_setGen I1.bare hb) rfl, fun _ _ e => e⟩ (by simpa using dec)
      | false =>
        simp only [Bool.false_eq_true, if_false]
        exact wpAny_bind (wpAny_rule (wpAny_pure (hout _ _ _ I2 (by simpa using dec))))
    · intro _
      obtain ⟨σ', H', I1, hf⟩ := hp
      exact wpAny_bind (wpAny_rule (wpAny_pure (hfin _ _ _ (Inv.slp I1 (slp_setH I1.bare rfl hk)) hf)))

theorem any_turns (hh : A0.handled = none) (hroom : A0.depth < recursionLimit) (hgen : ∀ h : Heap, h.get? a = some go → h.IsGen a g) (hpn : G.pn = [(a, go)])
    (hfin : ∀ σ' H' s', Inv G [] σ' H' s' → Fin H' → R (.ok (.ret (.bool false))) s') (hout : ∀ σ' H' s', Inv G [] σ' H' s' → Out H' → R (.ok (.ret (.bool true))) s') :
    ∀ (n : Nat) (s : Shared) (gs : GenState) (σ1 : L2.St) (H1 : Hp), s.gens[g]? = some gs →
      gs.Goes (model G.prog G.w) A0.in1.in1 (RG G Fin) (YG G (DecQ false Out)) n (.send .none) (s.setGen g .running) → Inv G [] σ1 H1 s →
      codeAny (model G.prog G.w) A0 (.builtin "any.loop" ⟨[.ref a], []⟩) R s := by
  intro n
  induction n with
  | zero =>
    intro s gs σ1 H1 hgs hgo I
    have hg : s.heap.IsGen a g := hgen _ (I.pin (a, go) (List.mem_append_left _ (by rw [hpn]; exact List.mem_singleton.mpr rfl))).1
    refine codeAny_builtin F.entry_any_loop ?_
    rw [Around.under_plainId F.plain_any_loop _]
    show wpAny _ A0.in1 (pyNext (.ref a) >>= _) _ _ s
    refine wpAny_bind (wpAny_pyNext_genexpQ (P := fun _ _ s1 => ∃ σ' H', Inv G [] σ' H' s1 ∧ Fin H') hh I.nolimit hroom hg hgs hgo (fun v s1 gs' hb hv => ?_) fun s1 hp h' hk => ?_)
    · obtain ⟨y, σ', H', Nx, ry, I1, ⟨c, rfl, dec⟩, kap⟩ := hv
      cases ry
      have I2 : Inv G [] σ' H' (s1.setGen g gs') := Inv.slp I1 (slp_set I1.bare hb)
      refine wpAny_bind (wpAny_holding (wpAny_truthy_bool ?_))
      refine wpAny_bind (wpAny_letGo ?_)
      cases c with
      | false => exact (kap _ ⟨rfl, I1.bare, fun _ _ e => e⟩ (by simpa using dec)).elim
      | true =>
        simp only [if_true]
        exact wpAny_bind (wpAny_rule (wpAny_pure (hout _ _ _ I2 (by simpa using dec))))
    · obtain ⟨σ', H', I1, hf⟩ := hp
      exact wpAny_bind (wpAny_rule (wpAny_pure (hfin _ _ _ (Inv.slp I1 (slp_setH I1.bare rfl hk)) hf)))
  | succ n ih =>
    intro s gs σ1 H1 hgs hgo I
    have hg : s.heap.IsGen a g := hgen _ (I.pin (a, go) (List.mem_append_left _ (by rw [hpn]; exact List.mem_singleton.mpr rfl))).1
    have hgl : g < s.gens.size := (Array.getElem?_eq_some_iff.mp hgs).1
    refine codeAny_builtin F.entry_any_loop ?_
    rw [Around.under_plainId F.plain_any_loop _]
    show wpAny _ A0.in1 (pyNext (.ref a) >>= _) _ _ s
    refine wpAny_bind (wpAny_gsz (n := g + 1) hgl (wpAny_pyNext_genexpQ (P := fun _ _ s1 => ∃ σ' H', Inv G [] σ' H' s1 ∧ Fin H') hh I.nolimit hroom hg hgs hgo (fun v s1 gs' hb hv => ?_) fun s1 hp h' hk => ?_))
    · intro hsz
      obtain ⟨y, σ', H', Nx, ry, I1, ⟨c, rfl, dec⟩, kap⟩ := hv
      cases ry
      have I2 : Inv G [] σ' H' (s1.setGen g gs') := Inv.slp I1 (slp_set I1.bare hb)
      have hsz1 : g < s1.gens.size := by
        have q : (s1.setGen g gs').gens.size = s1.gens.size := setGen_size _ _ _
        have hsz' : g + 1 ≤ (s1.setGen g gs').gens.size := hsz
        omega
      refine wpAny_bind (wpAny_holding (wpAny_truthy_bool ?_))
      refine wpAny_bind (wpAny_letGo ?_)
      cases c with
      | false =>
        simp only [Bool.false_eq_true, if_false]
        refine wpAny_pure ⟨plainId_quiet F.plain_any_loop _, ih _ gs' σ' H' (setGen_at hsz1) ?_ I2⟩
        exact kap _ ⟨rfl, allBare_setGen (s := s1.setGen g gs') (allBare_setGen I1.bare hb) rfl, fun _ _ e => e⟩ (by simpa using dec)
      | true =>
        simp only [if_true]
        exact wpAny_bind (wpAny_rule (wpAny_pure (hout _ _ _ I2 (by simpa using dec))))
    · intro _
      obtain ⟨σ', H', I1, hf⟩ := hp
      exact wpAny_bind (wpAny_rule (wpAny_pure (hfin _ _ _ (Inv.slp I1 (slp_setH I1.bare rfl hk)) hf)))
end

/-! ### the expressions all(..), any(..) -/
section
variable {X : Cx}
/-- behind the iterator's making the def's table may have grown (H2) -/
def tQ (d : Bool) (P : Addr) (wi : TI) (g : TG) (tt : TT) (te : TE) (vs : List Nat) : TE := fun σ H Q => wi σ H fun J H1 => GxR.TabG H1 P ∧ ∀ H2, GxR.Tabbed P H1 H2 →
  ∃ W : Nat → Nat → Hp → Prop, (∃ m, W 0 m H2) ∧ Turns J g tt te vs σ (fun H' => Q (.bl d) H') (DecQ d fun H' => Q (.bl (!d)) H') W

/-- back in the def's context -/
theorem back {pins : List (Addr × Obj)} {σ σ' : L2.St} {H2 H' : Hp} {s2 s' : Shared} {scope : Scope} {ge : Env} {fp : List Addr} {pn : List (Addr × Obj)} (I2 : Inv X pins σ H2 s2) (hfp : ∀ b ∈ fp, FpOk X pins H2 b)
    (I : Inv (gx X s2 H2 scope ge fp pn) [] σ' H' s') : Inv X pins σ H' s' :=
  I2.call' (ch := fp) I.os I.base I.hok I.bare fun b hb => ⟨(hfp b hb).2.2.2.1, (hfp b hb).2.1, (hfp b hb).2.2.2.2.1, (hfp b hb).2.2.2.2.2⟩

/-- the judgements of the parts of a generator expression, in its own frame -/
structure GParts (X : Cx) (k : Nat) (scope : Scope) (elt tg : Expr) (ifs : List Expr) (g : TG) (tt : TT) (te : TE) : Prop where
  tgt : ∀ (s : Shared) (H : Hp) (C : Addr) (code : Value) (fp : List Addr) (pn : List (Addr × Obj)), Room k (X.A.in1.in1.deeper (gEnv X scope C code)) → PG (gx X s H scope (gEnv X scope C code) fp pn) tg g
  tst : ∀ (s : Shared) (H : Hp) (C : Addr) (code : Value) (fp : List Addr) (pn : List (Addr × Obj)), Room k (X.A.in1.in1.deeper (gEnv X scope C code)) → PTs (gx X s H scope (gEnv X scope C code) fp pn) ifs tt
  elm : ∀ (s : Shared) (H : Hp) (C : Addr) (code : Value) (fp : List Addr) (pn : List (Addr × Obj)), Room k (X.A.in1.in1.deeper (gEnv X scope C code)) → PE (gx X s H scope (gEnv X scope C code) fp pn) elt te

theorem room_g {k : Nat} {A : Around} (r : Room (k + 1) A) (ge : Env) : Room k (A.in1.in1.deeper ge) :=
  ⟨r.hd, by have := r.dp; show A.depth + 1 + 3 * k + 5 < _; omega, by have := r.un; show A.units + 1 + 1 + 3 + 16 * k + 200 < _; omega⟩

theorem pe_all {k : Nat} {c P : Addr} {elt tg iter : Expr} {ifs : List Expr} {scope : Scope} {own : List (Str × Nat)} {gpos p pos : Pos} {wi : TI} {g : TG} {tt : TT} {te : TE}
    (hr : Room (k + 1) X.A) (hg : Gl X "all") (hm : X.mg "all" = none) (hc : X.calm = true) (hN : X.N.Nodup) (TB : GxR.TabB X.base X.mg c P) (hcode : X.env.code = .ref c) (ok : BlkOk X.N X.env.scope scope own) (sc : GScp scope)
    (hi : PI X tg iter wi) (hp : GParts X k scope elt tg ifs g tt te)
    (hb : bootBuiltins "all" = some (.builtin "all") := by decide +kernel) (hs : ∀ v, genFold iter X.env v = pure v := by intro _; rfl)
    (he : starEach [.GeneratorExp elt [⟨tg, iter, ifs, 0⟩] scope gpos] X.env = (false, eval (.GeneratorExp elt [⟨tg, iter, ifs, 0⟩] scope gpos) X.env) :: starEach [] X.env := by rfl) :
    PE X (.Call (.Name "all" p) [.GeneratorExp elt [⟨tg, iter, ifs, 0⟩] scope gpos] [] pos) (tQ true P wi g tt te (own.map (·.2))) := by
  refine ⟨fun pins s σ H Q I h => ?_⟩
  refine wpAny_Call_Name_kw (ld_blt I hg hm hb ?_)
  refine PyProof.Rows.callWith_builtin1 ?_ he (by rfl)
  rw [he]
  show wpAny _ _ (spliced ((false, eval (.GeneratorExp elt [⟨tg, iter, ifs, 0⟩] scope gpos) X.env) :: backTo pos (starEach [] X.env))) _ _ s
  refine Calls.spliced_cons (made hc hr.depth hN TB hcode ok sc hi hs I h fun a s5 rd => ?_)
  refine Calls.spliced_nil ?_
  obtain ⟨it, gg, fp, tn, J, H2, s2, code, go, I2, hfp, T, st5, I5, hgs, hgen, hage, W, ⟨m0, w0⟩, turns⟩ := rd.ex
  have hnlim := I5.nolimit
  refine call_function_tree F.kind_all F.plain_all F.entry_all (F.args_all1 _) ?_
  unfold Builtin.«all»
  refine wpAny_bind (m := oneArg "all" _) (wpAny_pure ?_)
  have hg5 : s5.heap.IsGen a gg := hgen _ (I5.pin (a, go) (List.mem_append_left _ (List.mem_singleton.mpr rfl))).1
  refine wpAny_bind (wpAny_pyIter_gen hg5 ?_)
  have hr2 := room_g hr (gEnv X scope s2.heap.objs.size code)
  refine wpAny_pure ⟨plainId_quiet F.plain_all_loop _, ?_⟩
  refine all_turns (G := gx X s2 H2 scope (gEnv X scope s2.heap.objs.size code) fp [(a, go)]) (A0 := X.A) (Fin := fun H' => Q (.bl true) H') (Out := fun H' => Q (.bl (!true)) H') hr.hd hr.depth hgen rfl
    (fun σ' H' s' J1 q => ⟨.bl true, H', back I2 (fun b hb => (hfp b hb).1) J1, rfl, q⟩) (fun σ' H' s' J1 q => ⟨.bl false, H', back I2 (fun b hb => (hfp b hb).1) J1, rfl, q⟩)
    (m0 + 1) s5 _ _ H2 hgs ⟨rfl, ?_⟩ I5
  refine seg_begin (G := gx X s2 H2 scope (gEnv X scope s2.heap.objs.size code) fp [(a, go)]) rfl hc (fun b hb => hb) rfl ?_ sc.co T (hp.tgt _ _ _ _ _ _ hr2) (hp.tst _ _ _ _ _ _ hr2) (hp.elm _ _ _ _ _ _ hr2) turns m0 (m0 + 1) _ _ H2 (Nat.lt_succ_self _) w0
    (Inv.slp I5 ⟨rfl, allBare_setGen I5.bare rfl, fun _ _ e => e⟩) st5 fun b hb => (hfp b hb).1.1
  intro p hp' z
  rw [List.mem_singleton.mp hp'] at z
  exact absurd (Nat.lt_of_lt_of_le (hfp _ z).2 hage) (Nat.lt_irrefl _)

theorem pe_any {k : Nat} {c P : Addr} {elt tg iter : Expr} {ifs : List Expr} {scope : Scope} {own : List (Str × Nat)} {gpos p pos : Pos} {wi : TI} {g : TG} {tt : TT} {te : TE}
    (hr : Room (k + 1) X.A) (hg : Gl X "any") (hm : X.mg "any" = none) (hc : X.calm = true) (hN : X.N.Nodup) (TB : GxR.TabB X.base X.mg c P) (hcode : X.env.code = .ref c) (ok : BlkOk X.N X.env.scope scope own) (sc : GScp scope)
    (hi : PI X tg iter wi) (hp : GParts X k scope elt tg ifs g tt te)
    (hb : bootBuiltins "any" = some (.builtin "any") := by decide +kernel) (hs : ∀ v, genFold iter X.env v = pure v := by intro _; rfl)
    (he : starEach [.GeneratorExp elt [⟨tg, iter, ifs, 0⟩] scope gpos] X.env = (false, eval (.GeneratorExp elt [⟨tg, iter, ifs, 0⟩] scope gpos) X.env) :: starEach [] X.env := by rfl) :
    PE X (.Call (.Name "any" p) [.GeneratorExp elt [⟨tg, iter, ifs, 0⟩] scope gpos] [] pos) (tQ false P wi g tt te (own.map (·.2))) := by
  refine ⟨fun pins s σ H Q I h => ?_⟩
  refine wpAny_Call_Name_kw (ld_blt I hg hm hb ?_)
  refine PyProof.Rows.callWith_builtin1 ?_ he (by rfl)
  rw [he]
  show wpAny _ _ (spliced ((false, eval (.GeneratorExp elt [⟨tg, iter, ifs, 0⟩] scope gpos) X.env) :: backTo pos (starEach [] X.env))) _ _ s
  refine Calls.spliced_cons (made hc hr.depth hN TB hcode ok sc hi hs I h fun a s5 rd => ?_)
  refine Calls.spliced_nil ?_
  obtain ⟨it, gg, fp, tn, J, H2, s2, code, go, I2, hfp, T, st5, I5, hgs, hgen, hage, W, ⟨m0, w0⟩, turns⟩ := rd.ex
  refine call_function_tree F.kind_any F.plain_any F.entry_any (F.args_any1 _) ?_
  unfold Builtin.«any»
  refine wpAny_bind (m := oneArg "any" _) (wpAny_pure ?_)
  have hg5 : s5.heap.IsGen a gg := hgen _ (I5.pin (a, go) (List.mem_append_left _ (List.mem_singleton.mpr rfl))).1
  refine wpAny_bind (wpAny_pyIter_gen hg5 ?_)
  have hr2 := room_g hr (gEnv X scope s2.heap.objs.size code)
  refine wpAny_pure ⟨plainId_quiet F.plain_any_loop _, ?_⟩
  refine any_turns (G := gx X s2 H2 scope (gEnv X scope s2.heap.objs.size code) fp [(a, go)]) (A0 := X.A) (Fin := fun H' => Q (.bl false) H') (Out := fun H' => Q (.bl (!false)) H') hr.hd hr.depth hgen rfl
    (fun σ' H' s' J1 q => ⟨.bl false, H', back I2 (fun b hb => (hfp b hb).1) J1, rfl, q⟩) (fun σ' H' s' J1 q => ⟨.bl true, H', back I2 (fun b hb => (hfp b hb).1) J1, rfl, q⟩)
    (m0 + 1) s5 _ _ H2 hgs ⟨rfl, ?_⟩ I5
  refine seg_begin (G := gx X s2 H2 scope (gEnv X scope s2.heap.objs.size code) fp [(a, go)]) rfl hc (fun b hb => hb) rfl ?_ sc.co T (hp.tgt _ _ _ _ _ _ hr2) (hp.tst _ _ _ _ _ _ hr2) (hp.elm _ _ _ _ _ _ hr2) turns m0 (m0 + 1) _ _ H2 (Nat.lt_succ_self _) w0
    (Inv.slp I5 ⟨rfl, allBare_setGen I5.bare rfl, fun _ _ e => e⟩) st5 fun b hb => (hfp b hb).1.1
  intro p hp' z
  rw [List.mem_singleton.mp hp'] at z
  exact absurd (Nat.lt_of_lt_of_le (hfp _ z).2 hage) (Nat.lt_irrefl _)
end
end GA

set_option Elab.async false
set_option linter.all false
set_option maxRecDepth 100000
set_option maxHeartbeats 2000000
/-! defs that are called where no repr is under way -/
namespace GA
open PySem PySem.Spec PyProof.Rows L2 GenW

/-- room, and no container's repr is under way -/
structure RoomQ (k : Nat) (A : Around) : Prop where
  room : Room k A
  quiet : A.guards = some []
theorem RoomQ.mono {j k : Nat} {A : Around} (r : RoomQ k A) (h : j ≤ k) : RoomQ j A := ⟨r.room.mono h, r.quiet⟩
theorem guards_deeper {A : Around} {env : Env} : (A.deeper env).guards = A.guards := by
  first
    | rfl
    | (obtain ⟨a, b, c, d, e⟩ := A; cases d <;> rfl)

structure FnQ (P : Program) (w : World) (K : PySem.W.Frag) (mg : Str → Option Value) (base : Heap) (CX : CXT) (k : Nat) (f : Addr) (fd : FuncData) (ps : List Str) (sp : Sp) : Prop where
  count : ∀ vs H Q E, sp vs H Q E → vs.length = ps.length
  go : ∀ (A : Around) (below : List Env) (s : Shared) (H : Hp) (as : Args) (us : List Value) (vs : List V) (Q : VK) (E : XK), RoomQ k A →
    Env0 P w K mg base A below s H → BindsTo s fd as (ps.zip us) → Vals vs us → sp vs H Q E →
    codeAny (model P w) A (.call (.ref f) as) (CR CX below P w H s Q E) s

section
variable {P : Program} {w : World} {K : PySem.W.Frag} {mg : Str → Option Value} {base : Heap} {CX : CXT}
theorem FnQ.up {j k : Nat} {f : Addr} {fd : FuncData} {ps : List Str} {sp : Sp} (F : FnQ P w K mg base CX j f fd ps sp) (h : j ≤ k) : FnQ P w K mg base CX k f fd ps sp :=
  ⟨F.count, fun A below s H as us vs Q E r => F.go A below s H as us vs Q E (r.mono h)⟩
/-- by the body's reading -/
theorem FnQ.of {k : Nat} {f : Addr} {nm qual : Str} {pr : Arguments} {body : List Stmt} {scope : Scope} {dV kV doc pm cdv ct oc : Value} {an od : Option Addr} {osl : Array (Option Value)} {N ps : List Str} {sp : Sp}
    (lk : K.lookup f = some ⟨oc, od, .func (PySem.W.fnOf nm qual pr body scope dV kV doc pm an cdv ct), osl⟩) (hcd : PySem.W.codeIn K cdv qual = true) (S : FnScope N ps scope)
    (cnt : ∀ vs H Q E, sp vs H Q E → vs.length = ps.length)
    (hb : ∀ (A : Around) (below : List Env) (s : Shared) (H : Hp) (vs : List V) (Q : VK) (E : XK), RoomQ k (A.deeper (envOfC qual scope s.heap.objs.size f cdv)) → sp vs H Q E →
      ∃ t, PSs (cxOf CX P w K mg base N qual scope f cdv A below s H E) body t ∧ t { nx := fun _ H' => Q .non H', rt := Q } (start N vs) H) :
    FnQ P w K mg base CX (k + 1) f (PySem.W.fnOf nm qual pr body scope dV kV doc pm an cdv ct) ps sp := by
  constructor
  · exact cnt
  intro A below s H as us vs Q E rq e0 bi rel hsp
  have stays : ∀ b o, base.get? b = some o → s.heap.get? b = some o := fun b o e => (e0.bs b o e).1
  have kin : K.In s.heap := e0.mod.kin.keeps stays
  have kinds : ∀ y ∈ ps.zip us, scope.names.lookup y.1 = some .local ∨
      (scope.names.lookup y.1 = some .cell ∧ ((cellsFrom (s.heap.objs.size + 1) scope.names []).lookup y.1).isSome = true) := by
    rintro ⟨n, v⟩ hy
    cases S.par n (List.of_mem_zip hy).1 with
    | inl q => exact .inl q
    | inr q => exact .inr ⟨q, PySem.W.cellsFrom_some _ _ _ (.inl q)⟩
  apply codeAny_call_function rq.room.depth (kin _ _ lk) rfl S.co S.gen rfl (PySem.W.codeRec_of kin hcd)
  apply bi
  apply wpAny_newFunctionEnv_cells S.kind kinds
  rintro env rfl s1 x
  refine ⟨(e0.mod.nolimit.keeps stays).keeps x.toInCall.keep, ?_⟩
  apply codeAny_func
  have rq' : RoomQ k (A.deeper (envOfC qual scope s.heap.objs.size f cdv)) := ⟨rq.room.deeper _, guards_deeper.trans rq.quiet⟩
  obtain ⟨t, d, q⟩ := hb A below s H vs Q E rq' hsp
  have I0 := inv_start (CX := CX) (E := E) S rq.room.hd e0 (cnt _ _ _ _ hsp) rel x
  have run := d.run [] s1 _ H _ I0 q
  refine wpAny_mono run ?_ fun _ _ z => z
  intro fl s' out
  cases fl with
  | next =>
    obtain ⟨σ', H', J, qq⟩ := out
    exact ⟨.non, H', J.os, J.bare, J.base, J.hok, rfl, qq⟩
  | ret u =>
    obtain ⟨v, σ', H', J, rr, qq⟩ := out
    exact ⟨v, H', J.os, J.bare, J.base, J.hok, rr, qq⟩
  | brk => exact out.elim fun _ z => z.elim fun _ z => z.2.elim
  | cont => exact out.elim fun _ z => z.elim fun _ z => z.2.elim
end

/-- a def of the text, its body read where no repr is under way, and no exception leaves it -/
theorem _root_.L2.Fun.okQ {P : Program} {w : World} {K : PySem.W.Frag} {mg : Str → Option Value} {base : Heap} {x qual : Str} {st : Stmt} {f : Addr} {fd : FuncData} {N ps : List Str} {k : Nat} {sp : Sp}
    (F : Fun K x qual st f fd) (S : FnScope N ps (defScope st)) (cnt : ∀ vs H Q E, sp vs H Q E → vs.length = ps.length)
    (hb : ∀ (cdv : Value) (A : Around) (below : List Env) (s : Shared) (H : Hp) (vs : List V) (Q : VK) (E : XK), PySem.W.codeIn K cdv qual = true → fd.code = cdv → RoomQ k (A.deeper (envOfC qual (defScope st) s.heap.objs.size f cdv)) → sp vs H Q E →
      ∃ t, PSs (cxOf CX0 P w K mg base N qual (defScope st) f cdv A below s H E).nox (defBody st) t ∧ t { nx := fun _ H' => Q .non H', rt := Q } (start N vs) H) :
    FnQ P w K mg base CX0 (k + 1) f fd ps sp := by
  obtain ⟨oc, od, kV, doc, pm, an, cdv, ct, osl, rfl, lk, hcd⟩ := F.ex
  refine FnQ.of lk hcd S cnt fun A below s H vs Q E rq hsp => ?_
  obtain ⟨t, d, q⟩ := hb cdv A below s H vs Q E hcd rfl rq hsp
  exact ⟨t, d.nox, q⟩

section
variable {X : Cx} {CX : CXT} {k : Nat} {f : Addr} {fd : FuncData} {ps : List Str} {sp : Sp} {E : XK} {x : Str} {p pos : Pos} {e : Expr} {es : List Expr} {t tk : TA}
theorem call_q {pins : List (Addr × Obj)} {σ : L2.St} {H : Hp} {s : Shared} {Q : VK} {us qs : List Value} {vs : List V} {kw : List (Str × Value)} (F : FnQ X.prog X.w X.K X.mg X.base CX k f fd ps sp) (rq : RoomQ k X.A) (hx : Passes CX X E)
    (hb : BindsTo s fd ⟨us, kw⟩ (ps.zip qs)) (I : Inv X pins σ H s) (r : Vals vs qs) (h : sp vs H Q E) : wpAny (model X.prog X.w) X.A (call (.ref f) us kw) (EP X pins σ Q) X.xe s := by
  have run := F.go X.A X.stack s H _ qs vs Q E rq I.env0 hb r h
  apply wpAny_call
  apply codeAny_mono run
  intro r s' hq
  rcases r with e | fl
  · exact hx pins σ H s e s' I hq
  · cases fl with
    | ret u => exact I.after hq
    | next => exact hq.elim
    | brk => exact hq.elim
    | cont => exact hq.elim

/-- f(e, ..) -/
theorem pe_callq (F : FnQ X.prog X.w X.K X.mg X.base CX k f fd ps sp) (rq : RoomQ k X.A) (hg : Gl X x) (hm : X.mg x = some (.ref f)) (hk : PySem.W.keepIn X.K (.ref f) = true) (hb : Binds X.K fd ps []) (hx : Passes CX X E) (ha : PA X (e :: es) t)
    (h1 : (x == ("__debug__" : Str)) = false := by decide) (h2 : starEach (e :: es) X.env = (false, eval e X.env) :: starEach es X.env := by rfl) (h3 : (backTo pos (starEach es X.env)).any (·.1) = false := by rfl) :
    PE X (.Call (.Name x p) (e :: es) [] pos) (tCall sp [] E t) := by
  constructor
  intro pins s σ H Q I h
  apply wpAny_Call_Name_kw
  apply ld_glob I hg hm (hd := h1)
  refine PySem.W.callWith_K (h₀ := X.base) I.ok.mod.kin hk ?_ h2 h3
  refine thn (ha.run pos pins s σ H _ I h) ?_
  rintro us s1 ⟨vs, H1, I1, r, q⟩
  rw [List.append_nil] at q
  have hl : (us ++ []).length = ps.length := by rw [List.append_nil, ← r.length]; exact F.count _ _ _ _ q
  have bi := hb s1 us I1.kIn hl
  rw [List.append_nil] at bi
  exact ⟨I1.kIn, call_q F rq hx bi I1 r q⟩
/-- f(k = v, ..), all by name; g puts the values in the parameters' row -/
theorem pe_callqk {kws : List Keyword} {ks : List Str} {g : List Value → List Value} {gV : List V → List V} (F : FnQ X.prog X.w X.K X.mg X.base CX k f fd ps sp) (rq : RoomQ k X.A) (hg : Gl X x) (hm : X.mg x = some (.ref f)) (hk : PySem.W.keepIn X.K (.ref f) = true)
    (hb : ∀ (s : Shared) (ws : List Value), (g ws).length = ps.length → BindsTo s fd ⟨[], ks.zip ws⟩ (ps.zip (g ws))) (hgl : ∀ {zs : List V} {ws : List Value}, Vals zs ws → Vals (gV zs) (g ws)) (hx : Passes CX X E) (ha : PK X kws tk)
    (h4 : (backToKw pos (keywordEach kws X.env)).all (·.1.isSome) = true := by rfl) (h5 : (backToKw pos (keywordEach kws X.env)).filterMap (·.1) = ks := by rfl)
    (h6 : ((backTo pos (starEach [] X.env)).any (·.1) || (backToKw pos (keywordEach kws X.env)).any (·.1.isNone)) = false := by rfl) (h1 : (x == ("__debug__" : Str)) = false := by decide) :
    PE X (.Call (.Name x p) [] kws pos) (fun σ H Q => tk σ H fun zs H1 => sp (gV zs) H1 Q E) := by
  constructor
  intro pins s σ H Q I h
  apply wpAny_Call_Name_kw
  apply ld_glob I hg hm (hd := h1)
  refine PySem.W.callWith_KW0 (h₀ := X.base) I.ok.mod.kin hk h4 ?_ h6
  refine thn (ha.run pos pins s σ H _ I h) ?_
  rintro ws s1 ⟨zs, H1, I1, r, q⟩
  have r2 := hgl r
  have hl : (g ws).length = ps.length := by rw [← r2.length]; exact F.count _ _ _ _ q
  rw [h5]
  exact ⟨I1.kIn, call_q F rq hx (hb s1 ws hl) I1 r2 q⟩
end
end GA

set_option Elab.async false
set_option linter.all false
set_option maxRecDepth 100000
set_option maxHeartbeats 2000000
/-! data, a plain program over them (a mirror), and when a Python expression keeps to it -/
namespace GA
open PySem PySem.Spec PyProof.Rows L2 GenW

inductive D where
  | non | bl (b : Bool) | int (i : Int) | str (x : Str) | tup (b : Bool) (xs : List D) | lst (xs : List D) | raw (v : V) | rg (lo hi : Int)

/-- the object at p has no dict -/
def Plain (K : PySem.W.Frag) (F : Hp) (p : Addr) : Prop := (∃ o u, F p = some (.frz o u) ∧ o.dict = none) ∨ ∃ o, K.lookup p = some o ∧ o.dict = none
mutual
inductive Rep (K : PySem.W.Frag) (F : Hp) : V → D → Prop
  | non : Rep K F .non .non
  | bl (b) : Rep K F (.bl b) (.bl b)
  | int (i) : Rep K F (.int i) (.int i)
  | str (x) : Rep K F (.str x) (.str x)
  | tup {b p vs ds} : SqT K F p vs → (b = true → Plain K F p) → Reps K F vs ds → Rep K F (.ref p) (.tup b ds)
  | lst {p vs ds} : F p = some (.lst vs) → Reps K F vs ds → Rep K F (.ref p) (.lst ds)
  | raw (v) : Rep K F v (.raw v)
  | rg {p lo hi} : F p = some (.rng lo hi) → Rep K F (.ref p) (.rg lo hi)
inductive Reps (K : PySem.W.Frag) (F : Hp) : List V → List D → Prop
  | nil : Reps K F [] []
  | cons {v d vs ds} : Rep K F v d → Reps K F vs ds → Reps K F (v :: vs) (d :: ds)
end

def Ext (F F' : Hp) : Prop := ∀ a o, F a = some o → F' a = some o
theorem Ext.refl (F : Hp) : Ext F F := fun _ _ e => e
theorem Ext.trans {F F1 F2 : Hp} (a : Ext F F1) (b : Ext F1 F2) : Ext F F2 := fun c o e => b c o (a c o e)
theorem Ext.new {F : Hp} {p : Addr} {o : HO} (h : F p = none) : Ext F (upd F p o) := fun a u e => by rw [upd_ne (ne_of_none e h)]; exact e
theorem Ext.sqT {K : PySem.W.Frag} {F F' : Hp} {p : Addr} {vs : List V} (e : Ext F F') (h : SqT K F p vs) : SqT K F' p vs := by
  rcases h with (h | ⟨o, h⟩) | h
  · exact .inl (.inl (e _ _ h))
  · exact .inl (.inr ⟨o, e _ _ h⟩)
  · exact .inr h
theorem Ext.sqL {K : PySem.W.Frag} {F F' : Hp} {p : Addr} {vs : List V} (e : Ext F F') (h : SqL K F p vs) : SqL K F' p vs := by
  rcases h with (h | ⟨o, h⟩) | h
  · exact .inl (.inl (e _ _ h))
  · exact .inl (.inr ⟨o, e _ _ h⟩)
  · exact .inr h
theorem Plain.ext {K : PySem.W.Frag} {F F' : Hp} {p : Addr} (h : Plain K F p) (e : Ext F F') : Plain K F' p := h.elim (fun ⟨o, u, h1, h2⟩ => .inl ⟨o, u, e _ _ h1, h2⟩) .inr
mutual
theorem Rep.ext {K : PySem.W.Frag} {F F' : Hp} (e : Ext F F') : ∀ {v : V} {d : D}, Rep K F v d → Rep K F' v d
  | _, _, .non => .non
  | _, _, .bl b => .bl b
  | _, _, .int i => .int i
  | _, _, .str x => .str x
  | _, _, .tup h n r => .tup (e.sqT h) (fun z => (n z).ext e) (Reps.ext e r)
  | _, _, .lst h r => .lst (e _ _ h) (Reps.ext e r)
  | _, _, .raw v => .raw v
  | _, _, .rg h => .rg (e _ _ h)
theorem Reps.ext {K : PySem.W.Frag} {F F' : Hp} (e : Ext F F') : ∀ {vs : List V} {ds : List D}, Reps K F vs ds → Reps K F' vs ds
  | _, _, .nil => .nil
  | _, _, .cons a b => .cons (Rep.ext e a) (Reps.ext e b)
end
theorem Reps.length {K : PySem.W.Frag} {F : Hp} : ∀ {vs : List V} {ds : List D}, Reps K F vs ds → vs.length = ds.length
  | _, _, .nil => rfl
  | _, _, .cons _ b => by rw [List.length_cons, List.length_cons, Reps.length b]
theorem Reps.get {K : PySem.W.Frag} {F : Hp} : ∀ {vs : List V} {ds : List D} {i : Nat} {d : D}, Reps K F vs ds → ds[i]? = some d → ∃ v, vs[i]? = some v ∧ Rep K F v d
  | _, _, _, _, .nil, e => by simp at e
  | _, _, 0, _, .cons a _, e => ⟨_, rfl, by simp at e; subst e; exact a⟩
  | _, _, i + 1, _, .cons _ b, e => by
    obtain ⟨v, h1, h2⟩ := Reps.get (i := i) b (by simpa using e)
    exact ⟨v, by simpa using h1, h2⟩
theorem Reps.getV {K : PySem.W.Frag} {F : Hp} : ∀ {vs : List V} {ds : List D} {i : Nat} {v : V}, Reps K F vs ds → vs[i]? = some v → ∃ d, ds[i]? = some d ∧ Rep K F v d
  | _, _, _, _, .nil, e => by simp at e
  | _, _, 0, _, .cons a _, e => ⟨_, rfl, by simp at e; subst e; exact a⟩
  | _, _, i + 1, _, .cons _ b, e => by
    obtain ⟨v, h1, h2⟩ := Reps.getV (i := i) b (by simpa using e)
    exact ⟨v, by simpa using h1, h2⟩
theorem Reps.app {K : PySem.W.Frag} {F : Hp} : ∀ {vs ws : List V} {ds es : List D}, Reps K F vs ds → Reps K F ws es → Reps K F (vs ++ ws) (ds ++ es)
  | _, _, _, _, .nil, b => b
  | _, _, _, _, .cons a r, b => .cons a (Reps.app r b)
theorem Reps.one {K : PySem.W.Frag} {F : Hp} {v : V} {d : D} (h : Rep K F v d) : Reps K F [v] [d] := .cons h .nil

/-- the draws' state -/
structure S where
  dk : Addr
  cells : List Int
  mixed : Int
  draws : Int
inductive Slot where
  | un | dat (d : D) | own (xs : List D) | ownd (kvs : List (Key × D))
structure Sta where
  s : S
  r : List Slot
abbrev M (α : Type) := Sta → Option (α × Sta)
def bindM {α β : Type} (m : M α) (k : α → M β) : M β := fun st => match m st with
  | none => none
  | some (a, st') => k a st'
def pureM {α : Type} (a : α) : M α := fun st => some (a, st)
def liftM {α : Type} (o : Option α) : M α := fun st => match o with
  | none => none
  | some a => some (a, st)
theorem bindM_some {α β : Type} {m : M α} {k : α → M β} {st : Sta} {r : β × Sta} (h : bindM m k st = some r) : ∃ a st', m st = some (a, st') ∧ k a st' = some r := by
  unfold bindM at h
  split at h
  · cases h
  · rename_i a st' e
    exact ⟨a, st', e, h⟩
theorem pureM_some {α : Type} {a b : α} {st st' : Sta} (h : pureM a st = some (b, st')) : b = a ∧ st' = st := by
  unfold pureM at h
  cases h
  exact ⟨rfl, rfl⟩
theorem liftM_some {α : Type} {o : Option α} {st : Sta} {a : α} {st' : Sta} (h : liftM o st = some (a, st')) : o = some a ∧ st' = st := by
  unfold liftM at h
  split at h
  · cases h
  · cases h; exact ⟨rfl, rfl⟩

def DeckAt (dk dc : Addr) (F H : Hp) (s : S) : Prop :=
  (s.dk = dk ∧ F dk = none) ∧ F dc = none ∧ H dk = some (.dK [(.inr "cells", .ref dc), (.inr "mixed", .int s.mixed), (.inr "draws", .int s.draws)]) ∧ H dc = some (.lst (s.cells.map V.int))
def Frz (F H : Hp) : Prop := ∀ a o, F a = some o → H a = some o ∧ ∀ ps, o ≠ .tbl ps
/-- what stood at the entry stands -/
structure Base (dk dc : Addr) (F0 H0 F H : Hp) : Prop where
  keep : ∀ b o, H0 b = some o → (∀ ps, o ≠ .tbl ps) → b ≠ dk → b ≠ dc → H b = some o ∧ F b = F0 b
  there : ∀ b, H b = none → H0 b = none
theorem Base.refl {dk dc : Addr} {F H : Hp} : Base dk dc F H F H := ⟨fun _ _ e _ _ _ => ⟨e, rfl⟩, fun _ e => e⟩
theorem Base.trans {dk dc : Addr} {F0 H0 F1 H1 F2 H2 : Hp} (a : Base dk dc F0 H0 F1 H1) (b : Base dk dc F1 H1 F2 H2) : Base dk dc F0 H0 F2 H2 := ⟨fun c o e n h1 h2 => by
  obtain ⟨x, y⟩ := a.keep c o e n h1 h2
  obtain ⟨z, t⟩ := b.keep c o x n h1 h2
  exact ⟨z, t.trans y⟩, fun c e => a.there c (b.there c e)⟩
/-- an object of this frame's own: no other name leads to it -/
structure Mine (dk dc : Addr) (H0 F H : Hp) (a : Addr) (o : HO) : Prop where
  fr : F a = none
  at_ : H a = some o
  new : H0 a = none
  nk : a ≠ dk
  nc : a ≠ dc
structure EnvOk (K : PySem.W.Frag) (dk dc : Addr) (H0 F H : Hp) (σ : L2.St) (r : List Slot) : Prop where
  len : σ.length = r.length
  dat : ∀ (i : Nat) d, r[i]? = some (.dat d) → ∃ v, σ[i]? = some (some v) ∧ Rep K F v d
  own : ∀ (i : Nat) xs, r[i]? = some (.own xs) → ∃ a vs, σ[i]? = some (some (.ref a)) ∧ Mine dk dc H0 F H a (.lst vs) ∧ Reps K F vs xs
  ownd : ∀ (i : Nat) kvs, r[i]? = some (.ownd kvs) → ∃ a vs, σ[i]? = some (some (.ref a)) ∧ Mine dk dc H0 F H a (.dK vs) ∧ Reps K F (vs.map (·.2)) (kvs.map (·.2)) ∧ vs.map (·.1) = kvs.map (·.1)
  apart : ∀ (i j : Nat) a, i ≠ j → (∃ x, r[i]? = some x ∧ (∀ d, x ≠ .dat d) ∧ x ≠ .un) → (∃ x, r[j]? = some x ∧ (∀ d, x ≠ .dat d) ∧ x ≠ .un) → σ[i]? = some (some (.ref a)) → σ[j]? ≠ some (some (.ref a))
structure Cfg (K : PySem.W.Frag) (T : List Addr) (dk dc : Addr) (F0 H0 F H : Hp) (σ : L2.St) (st : Sta) : Prop where
  frz : Frz F H
  base : Base dk dc F0 H0 F H
  deck : DeckAt dk dc F H st.s
  tabs : ∀ P ∈ T, GxR.TabG H P
  env : EnvOk K dk dc H0 F H σ st.r

/-- nothing that is known changes; something new may come -/
structure Grow (F H F' H' : Hp) : Prop where
  known : ∀ b o, H b = some o → H' b = some o ∧ F' b = F b
  frz : Frz F' H'
theorem Grow.blank {F H F' H' : Hp} (g : Grow F H F' H') {b : Addr} (e : H' b = none) : H b = none := by
  cases q : H b with
  | none => rfl
  | some o =>
    have := (g.known b o q).1
    rw [e] at this; cases this
theorem Frz.some {F H : Hp} (z : Frz F H) {a : Addr} (h : F a ≠ none) : H a ≠ none := by
  intro e
  cases q : F a with
  | none => exact h q
  | some o =>
    have := (z a o q).1
    rw [e] at this; cases this
theorem Grow.refl {F H : Hp} (z : Frz F H) : Grow F H F H := ⟨fun _ _ e => ⟨e, rfl⟩, z⟩
theorem Grow.ext {F H F' H' : Hp} (z : Frz F H) (g : Grow F H F' H') : Ext F F' := fun a o e => by
  have := (g.known a o (z a o e).1).2
  rw [this]; exact e
theorem Grow.trans {F H F1 H1 F2 H2 : Hp} (a : Grow F H F1 H1) (b : Grow F1 H1 F2 H2) : Grow F H F2 H2 :=
  ⟨fun c o e => ⟨(b.known c o (a.known c o e).1).1, (b.known c o (a.known c o e).1).2.trans (a.known c o e).2⟩, b.frz⟩
/-- a new object that will not change -/
theorem Grow.new {F H : Hp} {p : Addr} {o : HO} (z : Frz F H) (h : H p = none) (n : ∀ ps, o ≠ .tbl ps) : Grow F H (upd F p o) (upd H p o) := by
  refine ⟨fun b u e => ?_, fun b u e => ?_⟩
  · have nb := ne_of_none e h
    exact ⟨by rw [upd_ne nb]; exact e, by rw [upd_ne nb]⟩
  · by_cases hb : b = p
    · subst hb
      rw [upd_same] at e ⊢
      cases e
      exact ⟨rfl, n⟩
    · rw [upd_ne hb] at e ⊢
      exact z b u e
/-- a new object of one's own -/
theorem Grow.mine {F H : Hp} {p : Addr} {o : HO} (z : Frz F H) (h : H p = none) : Grow F H F (upd H p o) :=
  ⟨fun b u e => ⟨by rw [upd_ne (ne_of_none e h)]; exact e, rfl⟩, fun b u e => ⟨by rw [upd_ne (ne_of_none (z b u e).1 h)]; exact (z b u e).1, (z b u e).2⟩⟩

section
variable {K : PySem.W.Frag} {T : List Addr} {dk dc : Addr} {F0 H0 F H F' H' : Hp} {σ : L2.St} {st : Sta}
theorem Mine.grow {a : Addr} {o : HO} (m : Mine dk dc H0 F H a o) (g : Grow F H F' H') : Mine dk dc H0 F' H' a o :=
  ⟨(g.known a o m.at_).2.trans m.fr, (g.known a o m.at_).1, m.new, m.nk, m.nc⟩
theorem EnvOk.grow {r : List Slot} (e : EnvOk K dk dc H0 F H σ r) (x : Ext F F') (g : Grow F H F' H') : EnvOk K dk dc H0 F' H' σ r where
  len := e.len
  dat := fun i d h => let ⟨v, a, b⟩ := e.dat i d h; ⟨v, a, b.ext x⟩
  own := fun i xs h => let ⟨a, vs, h1, h2, h3⟩ := e.own i xs h; ⟨a, vs, h1, h2.grow g, h3.ext x⟩
  ownd := fun i xs h => let ⟨a, vs, h1, h2, h3, h4⟩ := e.ownd i xs h; ⟨a, vs, h1, h2.grow g, h3.ext x, h4⟩
  apart := e.apart
theorem Cfg.grow (c : Cfg K T dk dc F0 H0 F H σ st) (g : Grow F H F' H') : Cfg K T dk dc F0 H0 F' H' σ st where
  frz := g.frz
  base := ⟨fun b o e n h1 h2 => by
    obtain ⟨x, y⟩ := c.base.keep b o e n h1 h2
    exact ⟨(g.known b o x).1, (g.known b o x).2.trans y⟩, fun b e => c.base.there b (g.blank e)⟩
  deck := by
    obtain ⟨d1, d2, d3, d4⟩ := c.deck
    exact ⟨⟨d1.1, (g.known _ _ d3).2.trans d1.2⟩, (g.known _ _ d4).2.trans d2, (g.known _ _ d3).1, (g.known _ _ d4).1⟩
  tabs := fun P hP => by
    obtain ⟨ps, h, ht⟩ := c.tabs P hP
    exact ⟨ps, (g.known _ _ h).1, ht⟩
  env := c.env.grow (g.ext c.frz) g
end

/-! ### judgements -/
/-- e gives the datum that m gives -/
structure PM (T : List Addr) (X : Cx) (e : Expr) (m : M D) : Prop where
  ex : ∃ t : TE, PE X e t ∧ ∀ (dk dc : Addr) (F0 H0 F H : Hp) (σ : L2.St) (st st' : Sta) (d : D) (Q : VK), Cfg X.K T dk dc F0 H0 F H σ st → m st = some (d, st') →
    (∀ v F' H', Ext F F' → Cfg X.K T dk dc F0 H0 F' H' σ st' → Rep X.K F' v d → Q v H') → t σ H Q
structure PMT (T : List Addr) (X : Cx) (e : Expr) (m : M Bool) : Prop where
  ex : ∃ t : TT, PT X e t ∧ ∀ (dk dc : Addr) (F0 H0 F H : Hp) (σ : L2.St) (st st' : Sta) (b : Bool) (Q : Bool → Hp → Prop), Cfg X.K T dk dc F0 H0 F H σ st → m st = some (b, st') →
    (∀ F' H', Ext F F' → Cfg X.K T dk dc F0 H0 F' H' σ st' → Q b H') → t σ H Q
structure PMW (T : List Addr) (X : Cx) (e : Expr) (m : M Bool) : Prop where
  ex : ∃ t : TT, PW X e t ∧ ∀ (dk dc : Addr) (F0 H0 F H : Hp) (σ : L2.St) (st st' : Sta) (b : Bool) (Q : Bool → Hp → Prop), Cfg X.K T dk dc F0 H0 F H σ st → m st = some (b, st') →
    (∀ F' H', Ext F F' → Cfg X.K T dk dc F0 H0 F' H' σ st' → Q b H') → t σ H Q
structure PMA (T : List Addr) (X : Cx) (es : List Expr) (m : M (List D)) : Prop where
  ex : ∃ t : TA, PA X es t ∧ ∀ (dk dc : Addr) (F0 H0 F H : Hp) (σ : L2.St) (st st' : Sta) (ds : List D) (Q : List V → Hp → Prop), Cfg X.K T dk dc F0 H0 F H σ st → m st = some (ds, st') →
    (∀ vs F' H', Ext F F' → Cfg X.K T dk dc F0 H0 F' H' σ st' → Reps X.K F' vs ds → Q vs H') → t σ H Q
/-- e gives a new list, to which nothing leads yet -/
structure PML (T : List Addr) (X : Cx) (e : Expr) (m : M (List D)) : Prop where
  ex : ∃ t : TE, PE X e t ∧ ∀ (dk dc : Addr) (F0 H0 F H : Hp) (σ : L2.St) (st st' : Sta) (ds : List D) (Q : VK), Cfg X.K T dk dc F0 H0 F H σ st → m st = some (ds, st') →
    (∀ p vs F1 H1, Ext F F1 → Cfg X.K T dk dc F0 H0 F1 H1 σ st' → H1 p = none → Reps X.K F1 vs ds → vs.length ≤ sizeLine → Q (.ref p) (upd H1 p (.lst vs))) → t σ H Q
end GA

set_option Elab.async false
set_option linter.all false
set_option maxRecDepth 100000
set_option maxHeartbeats 2000000
namespace GA
open PySem PySem.Spec PyProof.Rows L2 GenW

section
variable {K : PySem.W.Frag} {T : List Addr} {dk dc : Addr} {F0 H0 F H F' H' : Hp} {σ : L2.St} {st : Sta}
theorem Cfg.ext_grow (c : Cfg K T dk dc F0 H0 F H σ st) (g : Grow F H F' H') : Ext F F' := g.ext c.frz

/-- the slot i takes a datum -/
theorem EnvOk.set {r : List Slot} {i : Nat} {v : V} {d : D} (e : EnvOk K dk dc H0 F H σ r) (h : Rep K F v d) : EnvOk K dk dc H0 F H (σ.set i (some v)) (r.set i (.dat d)) := by
  refine ⟨by rw [List.length_set, List.length_set]; exact e.len, fun j x hj => ?_, fun j x hj => ?_, fun j x hj => ?_, fun j k a hjk h1 h2 h3 => ?_⟩
  · by_cases q : i = j
    · subst q
      have hl : i < r.length := by
        have := (List.getElem?_eq_some_iff.mp hj).1
        rwa [List.length_set] at this
      rw [List.getElem?_set_self hl] at hj
      cases hj
      exact ⟨v, List.getElem?_set_self (by rw [e.len]; exact hl), h⟩
    · rw [List.getElem?_set_ne q] at hj
      obtain ⟨w, h1, h2⟩ := e.dat j x hj
      exact ⟨w, by rw [List.getElem?_set_ne q]; exact h1, h2⟩
  · have q : i ≠ j := by
      rintro rfl
      have hl : i < r.length := by
        have := (List.getElem?_eq_some_iff.mp hj).1
        rwa [List.length_set] at this
      rw [List.getElem?_set_self hl] at hj
      cases hj
    rw [List.getElem?_set_ne q] at hj
    obtain ⟨a, vs, h1, h2⟩ := e.own j x hj
    exact ⟨a, vs, by rw [List.getElem?_set_ne q]; exact h1, h2⟩
  · have q : i ≠ j := by
      rintro rfl
      have hl : i < r.length := by
        have := (List.getElem?_eq_some_iff.mp hj).1
        rwa [List.length_set] at this
      rw [List.getElem?_set_self hl] at hj
      cases hj
    rw [List.getElem?_set_ne q] at hj
    obtain ⟨a, vs, h1, h2⟩ := e.ownd j x hj
    exact ⟨a, vs, by rw [List.getElem?_set_ne q]; exact h1, h2⟩
  · have nd : ∀ j : Nat, (∃ x, (r.set i (.dat d))[j]? = some x ∧ (∀ d, x ≠ .dat d) ∧ x ≠ .un) → i ≠ j ∧ ∃ x, r[j]? = some x ∧ (∀ d, x ≠ .dat d) ∧ x ≠ .un := fun j ⟨x, g1, g2, g3⟩ => by
      have q : i ≠ j := by
        rintro rfl
        have hl : i < r.length := by
          have := (List.getElem?_eq_some_iff.mp g1).1
          rwa [List.length_set] at this
        rw [List.getElem?_set_self hl] at g1
        cases g1
        exact g2 d rfl
      exact ⟨q, x, by rw [List.getElem?_set_ne q] at g1; exact g1, g2, g3⟩
    obtain ⟨q1, h1⟩ := nd j h1
    obtain ⟨q2, h2⟩ := nd k h2
    rw [List.getElem?_set_ne q1] at h3
    rw [List.getElem?_set_ne q2]
    exact e.apart j k a hjk h1 h2 h3
/-- what the slot i holds is known no more -/
theorem EnvOk.drop {r : List Slot} {i : Nat} {o : Option V} (e : EnvOk K dk dc H0 F H σ r) : EnvOk K dk dc H0 F H (σ.set i o) (r.set i .un) := by
  have key : ∀ (j : Nat) x, (r.set i .un)[j]? = some x → x ≠ .un → i ≠ j ∧ r[j]? = some x := fun j x hj hx => by
    have q : i ≠ j := by
      rintro rfl
      have hl : i < r.length := by
        have := (List.getElem?_eq_some_iff.mp hj).1
        rwa [List.length_set] at this
      rw [List.getElem?_set_self hl] at hj
      cases hj
      exact hx rfl
    exact ⟨q, by rw [List.getElem?_set_ne q] at hj; exact hj⟩
  refine ⟨by rw [List.length_set, List.length_set]; exact e.len, fun j x hj => ?_, fun j x hj => ?_, fun j x hj => ?_, fun j k a hjk h1 h2 h3 => ?_⟩
  · obtain ⟨q, hj⟩ := key j _ hj (by simp)
    rw [List.getElem?_set_ne q]; exact e.dat j x hj
  · obtain ⟨q, hj⟩ := key j _ hj (by simp)
    rw [List.getElem?_set_ne q]; exact e.own j x hj
  · obtain ⟨q, hj⟩ := key j _ hj (by simp)
    rw [List.getElem?_set_ne q]; exact e.ownd j x hj
  · obtain ⟨x, g1, g2, g3⟩ := h1
    obtain ⟨y, k1, k2, k3⟩ := h2
    obtain ⟨q1, g1⟩ := key j _ g1 g3
    obtain ⟨q2, k1⟩ := key k _ k1 k3
    rw [List.getElem?_set_ne q1] at h3
    rw [List.getElem?_set_ne q2]
    exact e.apart j k a hjk ⟨x, g1, g2, g3⟩ ⟨y, k1, k2, k3⟩ h3
/-- an own list, an own dict at the slot i -/
theorem EnvOk.setOwn {r : List Slot} {i : Nat} {p : Addr} {x : Slot} (e : EnvOk K dk dc H0 F H σ r) (hx : (∃ ds vs, x = .own ds ∧ Mine dk dc H0 F H p (.lst vs) ∧ Reps K F vs ds) ∨ (∃ kds vs, x = .ownd kds ∧ Mine dk dc H0 F H p (.dK vs) ∧ Reps K F (vs.map (·.2)) (kds.map (·.2)) ∧ vs.map (·.1) = kds.map (·.1)))
    (hn : ∀ (j : Nat) y, j ≠ i → r[j]? = some y → (∀ d, y ≠ .dat d) → y ≠ .un → σ[j]? ≠ some (some (.ref p))) : EnvOk K dk dc H0 F H (σ.set i (some (.ref p))) (r.set i x) := by
  have nd : (∀ d, x ≠ .dat d) ∧ x ≠ .un := by
    rcases hx with ⟨_, _, rfl, _⟩ | ⟨_, _, rfl, _⟩ <;> exact ⟨fun d z => (by cases z), fun z => (by cases z)⟩
  have here : ∀ (j : Nat) y, (r.set i x)[j]? = some y → (i = j ∧ y = x ∧ i < r.length) ∨ (i ≠ j ∧ r[j]? = some y) := fun j y hj => by
    by_cases q : i = j
    · subst q
      have hl : i < r.length := by
        have := (List.getElem?_eq_some_iff.mp hj).1
        rwa [List.length_set] at this
      rw [List.getElem?_set_self hl] at hj
      cases hj
      exact .inl ⟨rfl, rfl, hl⟩
    · rw [List.getElem?_set_ne q] at hj
      exact .inr ⟨q, hj⟩
  refine ⟨by rw [List.length_set, List.length_set]; exact e.len, fun j y hj => ?_, fun j y hj => ?_, fun j y hj => ?_, fun j k a hjk h1 h2 h3 => ?_⟩
  · rcases here j _ hj with ⟨_, z, _⟩ | ⟨q, hj⟩
    · exact absurd z.symm (nd.1 _)
    · rw [List.getElem?_set_ne q]; exact e.dat j y hj
  · rcases here j _ hj with ⟨q, z, hl⟩ | ⟨q, hj⟩
    · subst q
      rcases hx with ⟨ds, vs, w, m, rr⟩ | ⟨_, _, w, _⟩
      · rw [w] at z; cases z
        exact ⟨p, vs, List.getElem?_set_self (by rw [e.len]; exact hl), m, rr⟩
      · rw [w] at z; cases z
    · rw [List.getElem?_set_ne q]; exact e.own j y hj
  · rcases here j _ hj with ⟨q, z, hl⟩ | ⟨q, hj⟩
    · subst q
      rcases hx with ⟨_, _, w, _⟩ | ⟨ds, vs, w, m, rr⟩
      · rw [w] at z; cases z
      · rw [w] at z; cases z
        exact ⟨p, vs, List.getElem?_set_self (by rw [e.len]; exact hl), m, rr⟩
    · rw [List.getElem?_set_ne q]; exact e.ownd j y hj
  · obtain ⟨y, g1, g2, g3⟩ := h1
    obtain ⟨y', k1, k2, k3⟩ := h2
    rcases here j _ g1 with ⟨q, z, hl⟩ | ⟨q, g1⟩
    · subst q
      rw [List.getElem?_set_self (by rw [e.len]; exact hl)] at h3
      cases h3
      rw [List.getElem?_set_ne hjk]
      rcases here k _ k1 with ⟨q2, _, _⟩ | ⟨q2, k1⟩
      · exact absurd q2 hjk
      · exact hn k y' (Ne.symm q2) k1 k2 k3
    · rw [List.getElem?_set_ne q] at h3
      rcases here k _ k1 with ⟨q2, _, hl⟩ | ⟨q2, k1⟩
      · subst q2
        rw [List.getElem?_set_self (by rw [e.len]; exact hl)]
        intro z
        cases z
        exact hn j y (Ne.symm q) g1 g2 g3 h3
      · rw [List.getElem?_set_ne q2]
        exact e.apart j k a hjk ⟨y, g1, g2, g3⟩ ⟨y', k1, k2, k3⟩ h3
end

/-! ### by values -/
def OpD (K : PySem.W.Frag) (r : R2) (f : D → D → Option D) : Prop := ∀ (F H : Hp) (x y : V) (a b d : D) (Q : VK), Frz F H → Rep K F x a → Rep K F y b → f a b = some d →
  (∀ v F' H', Grow F H F' H' → Rep K F' v d → Q v H') → r x y H Q
def CallD (K : PySem.W.Frag) (r : List V → Hp → VK → Prop) (f : List D → Option D) : Prop := ∀ (F H : Hp) (xs : List V) (ds : List D) (d : D) (Q : VK), Frz F H → Reps K F xs ds → f ds = some d →
  (∀ v F' H', Grow F H F' H' → Rep K F' v d → Q v H') → r xs H Q
/-- the same, a new list -/
def CallL (K : PySem.W.Frag) (r : List V → Hp → VK → Prop) (f : List D → Option (List D)) : Prop := ∀ (F H : Hp) (xs : List V) (ds es : List D) (Q : VK), Frz F H → Reps K F xs ds → f ds = some es →
  (∀ p vs F1 H1, Grow F H F1 H1 → H1 p = none → Reps K F1 vs es → vs.length ≤ sizeLine → Q (.ref p) (upd H1 p (.lst vs))) → r xs H Q

def asB : D → Option Bool | .bl b => some b | _ => none
def asI : D → Option Int | .int i => some i | _ => none

/-! ### expressions -/
/-- a name's datum; an own list is seen from now on, and no more changed -/
def varM (i : Nat) : M D := fun st => match st.r[i]? with
  | some (.dat d) => some (d, st)
  | some (.own xs) => some (.lst xs, { st with r := st.r.set i (.dat (.lst xs)) })
  | _ => none
def andM (m : M D) (k : M D) : M D := bindM m fun x => bindM (liftM (asB x)) fun c => if c then k else pureM (.bl false)
def orM (m : M D) (k : M D) : M D := bindM m fun x => bindM (liftM (asB x)) fun c => if c then pureM (.bl true) else k
def notM (m : M D) : M D := bindM m fun x => bindM (liftM (asB x)) fun c => pureM (.bl (!c))
def ifM (c : M Bool) (a b : M D) : M D := bindM c fun k => if k then a else b
def op2M (f : D → D → Option D) (a b : M D) : M D := bindM a fun x => bindM b fun y => liftM (f x y)
def testM (m : M D) : M Bool := bindM m fun x => liftM (asB x)
def tAndM (a b : M Bool) : M Bool := bindM a fun c => if c then b else pureM false
def tOrM (a b : M Bool) : M Bool := bindM a fun c => if c then pureM true else b
def tNotM (a : M Bool) : M Bool := bindM a fun c => pureM (!c)
def consM (a : M D) (r : M (List D)) : M (List D) := bindM a fun x => bindM r fun xs => pureM (x :: xs)
/-- a < b < c -/
def chainM (f g : D → D → Option D) (a b c : M D) : M D := bindM a fun x => bindM b fun y => bindM (liftM (f x y)) fun z => bindM (liftM (asB z)) fun k => if k then bindM c fun w => liftM (g y w) else pureM (.bl false)

section
variable {X : Cx} {T : List Addr} {e ea eb ec : Expr} {es : List Expr} {ma mb mc : M D} {t1 t2 : M Bool} {pos : Pos}
theorem pm_var (i : Nat) {x : Str} (hN : X.N[i]? = some x := by rfl) (hv : Vis X.env.scope x := by first | exact Or.inl rfl | exact Or.inr (Or.inl rfl) | exact Or.inr (Or.inr rfl)) (hd : (x == ("__debug__" : Str)) = false := by decide)
    (hcd : (x == ("__classdict__" : Str)) = false := by decide) : PM T X (.Name x pos) (varM i) := by
  refine ⟨_, pe_var hN hv hd hcd, fun dk dc F0 H0 F H σ st st' d Q c hm k => ?_⟩
  unfold varM at hm
  split at hm
  · rename_i d' hd'
    cases hm
    obtain ⟨v, h1, h2⟩ := c.env.dat i _ hd'
    exact ⟨v, h1, k v F H (Ext.refl F) c h2⟩
  · rename_i xs hx
    cases hm
    obtain ⟨a, vs, h1, h2, h3⟩ := c.env.own i _ hx
    have en : Ext F (upd F a (.lst vs)) := Ext.new h2.fr
    have ea : ∀ b, b ≠ a → upd F a (.lst vs) b = F b := fun b hb => upd_ne hb
    have rd : Rep X.K (upd F a (.lst vs)) (.ref a) (.lst xs) := .lst upd_same (h3.ext en)
    refine ⟨.ref a, h1, k _ (upd F a (.lst vs)) H en ?_ rd⟩
    obtain ⟨d1, d2, d3, d4⟩ := c.deck
    have e2 : EnvOk X.K dk dc H0 (upd F a (.lst vs)) H (σ.set i (some (.ref a))) (st.r.set i (.dat (.lst xs))) := by
      have il : i < σ.length := (List.getElem?_eq_some_iff.mp h1).1
      have ir : i < st.r.length := (List.getElem?_eq_some_iff.mp hx).1
      -- all others
      have oth : ∀ (j : Nat) y, (st.r.set i (.dat (.lst xs)))[j]? = some y → (i = j ∧ y = .dat (.lst xs)) ∨ (i ≠ j ∧ st.r[j]? = some y) := fun j y hj => by
        by_cases q : i = j
        · subst q
          rw [List.getElem?_set_self ir] at hj
          cases hj
          exact .inl ⟨rfl, rfl⟩
        · rw [List.getElem?_set_ne q] at hj
          exact .inr ⟨q, hj⟩
      have mine' : ∀ (j : Nat) y b o, i ≠ j → st.r[j]? = some y → (∀ d, y ≠ .dat d) → y ≠ .un → σ[j]? = some (some (.ref b)) → Mine dk dc H0 F H b o → Mine dk dc H0 (upd F a (.lst vs)) H b o := fun j y b o q hy n1 n2 hs mm => by
        have nb : b ≠ a := fun z => by
          subst z
          exact c.env.apart i j b q ⟨_, hx, fun d z => (by cases z), fun z => (by cases z)⟩ ⟨y, hy, n1, n2⟩ h1 hs
        exact ⟨by rw [ea b nb]; exact mm.fr, mm.at_, mm.new, mm.nk, mm.nc⟩
      refine ⟨by rw [List.length_set, List.length_set]; exact c.env.len, fun j y hj => ?_, fun j y hj => ?_, fun j y hj => ?_, fun j l b hjl q1 q2 q3 => ?_⟩
      · rcases oth j _ hj with ⟨q, z⟩ | ⟨q, hj⟩
        · subst q
          cases z
          exact ⟨.ref a, List.getElem?_set_self il, rd⟩
        · obtain ⟨v, z1, z2⟩ := c.env.dat j y hj
          exact ⟨v, by rw [List.getElem?_set_ne q]; exact z1, z2.ext en⟩
      · rcases oth j _ hj with ⟨q, z⟩ | ⟨q, hj⟩
        · cases z
        · obtain ⟨b, ws, z1, z2, z3⟩ := c.env.own j y hj
          exact ⟨b, ws, by rw [List.getElem?_set_ne q]; exact z1, mine' j _ b _ q hj (fun d z => (by cases z)) (fun z => (by cases z)) z1 z2, z3.ext en⟩
      · rcases oth j _ hj with ⟨q, z⟩ | ⟨q, hj⟩
        · cases z
        · obtain ⟨b, ws, z1, z2, z3, z4⟩ := c.env.ownd j y hj
          exact ⟨b, ws, by rw [List.getElem?_set_ne q]; exact z1, mine' j _ b _ q hj (fun d z => (by cases z)) (fun z => (by cases z)) z1 z2, z3.ext en, z4⟩
      · obtain ⟨y, g1, g2, g3⟩ := q1
        obtain ⟨y', k1, k2, k3⟩ := q2
        rcases oth j _ g1 with ⟨_, z⟩ | ⟨n1, g1⟩
        · exact absurd z (g2 _)
        rcases oth l _ k1 with ⟨_, z⟩ | ⟨n2, k1⟩
        · exact absurd z (k2 _)
        rw [List.getElem?_set_ne n1] at q3
        rw [List.getElem?_set_ne n2]
        exact c.env.apart j l b hjl ⟨y, g1, g2, g3⟩ ⟨y', k1, k2, k3⟩ q3
    have es : σ.set i (some (.ref a)) = σ := by
      apply List.ext_getElem?
      intro j
      by_cases q : i = j
      · subst q
        rw [List.getElem?_set_self (List.getElem?_eq_some_iff.mp h1).1, h1]
      · rw [List.getElem?_set_ne q]
    rw [es] at e2
    refine ⟨fun b o e => ?_, ⟨fun b o e n1 n2 n3 => ?_, c.base.there⟩, ⟨?_, ?_, d3, d4⟩, c.tabs, e2⟩
    · by_cases hb : b = a
      · subst hb
        rw [upd_same] at e
        cases e
        exact ⟨h2.at_, fun ps z => (by cases z)⟩
      · rw [ea b hb] at e
        exact c.frz b o e
    · have nb : b ≠ a := fun z => by
        rw [z, h2.new] at e
        cases e
      rw [ea b nb]
      exact c.base.keep b o e n1 n2 n3
    · rw [ea dk (Ne.symm h2.nk)]; exact d1
    · rw [ea dc (Ne.symm h2.nc)]; exact d2
  · cases hm

theorem pm_val {t : TE} {v : V} {d0 : D} (h : PE X e t) (ht : ∀ σ H (Q : VK), Q v H → t σ H Q) (r : ∀ F, Rep X.K F v d0) : PM T X e (pureM d0) :=
  ⟨t, h, fun dk dc F0 H0 F H σ st st' d Q c hm k => by
    cases hm
    exact ht σ H Q (k v F H (Ext.refl F) c (r F))⟩
theorem pm_int {i j} : PM T X (.Constant (.int i) j pos) (pureM (.int i)) := pm_val pe_int (fun _ _ _ q => q) fun _ => .int i
theorem pm_bl {i j} : PM T X (.Constant (.bool i) j pos) (pureM (.bl i)) := pm_val pe_bl (fun _ _ _ q => q) fun _ => .bl i
theorem pm_non {j} : PM T X (.Constant .none j pos) (pureM .non) := pm_val pe_non (fun _ _ _ q => q) fun _ => .non
theorem pm_str {i j} : PM T X (.Constant (.str i) j pos) (pureM (.str i)) := pm_val pe_str (fun _ _ _ q => q) fun _ => .str i
/-- a module's constant -/
theorem pm_glob {x : Str} {v : V} {u : Value} {d0 : D} (hg : Gl X x) (hm : X.mg x = some u) (r : RelV v u) (h : ∀ F, Rep X.K F v d0) (hd : (x == ("__debug__" : Str)) = false := by decide) : PM T X (.Name x pos) (pureM d0) :=
  pm_val (pe_glob hg hm r hd) (fun _ _ _ q => q) h
/-- a built-in's name as a value -/
theorem pm_bltn {x : Str} {n : String} (hg : Gl X x) (hm : X.mg x = none) (hv : bootBuiltins x = some (.type n)) (hn : x ≠ "__name__" := by decide) (hd : (x == ("__debug__" : Str)) = false := by decide) : PM T X (.Name x pos) (pureM (.raw (.ty n))) :=
  pm_val (pe_bltn (v := .ty n) hg hm hv rfl hn hd) (fun _ _ _ q => q) fun _ => .raw _

theorem op2_core {r : R2} {f : D → D → Option D} {ta tb : TE} (hf : OpD X.K r f)
    (ha : ∀ (dk dc : Addr) (F0 H0 F H : Hp) (σ : L2.St) (st st' : Sta) (d : D) (Q : VK), Cfg X.K T dk dc F0 H0 F H σ st → ma st = some (d, st') →
      (∀ v F' H', Ext F F' → Cfg X.K T dk dc F0 H0 F' H' σ st' → Rep X.K F' v d → Q v H') → ta σ H Q)
    (hb : ∀ (dk dc : Addr) (F0 H0 F H : Hp) (σ : L2.St) (st st' : Sta) (d : D) (Q : VK), Cfg X.K T dk dc F0 H0 F H σ st → mb st = some (d, st') →
      (∀ v F' H', Ext F F' → Cfg X.K T dk dc F0 H0 F' H' σ st' → Rep X.K F' v d → Q v H') → tb σ H Q)
    {dk dc : Addr} {F0 H0 F H : Hp} {σ : L2.St} {st st' : Sta} {d : D} {Q : VK} (c : Cfg X.K T dk dc F0 H0 F H σ st) (hm : op2M f ma mb st = some (d, st'))
    (k : ∀ v F' H', Ext F F' → Cfg X.K T dk dc F0 H0 F' H' σ st' → Rep X.K F' v d → Q v H') : tOp r ta tb σ H Q := by
  obtain ⟨x, s1, h1, hm⟩ := bindM_some hm
  obtain ⟨y, s2, h2, hm⟩ := bindM_some hm
  obtain ⟨h3, rfl⟩ := liftM_some hm
  refine ha dk dc F0 H0 F H σ st s1 x _ c h1 fun v F1 H1 e1 c1 r1 => ?_
  refine hb dk dc F0 H0 F1 H1 σ s1 _ y _ c1 h2 fun w F2 H2 e2 c2 r2 => ?_
  exact hf F2 H2 v w x y d Q c2.frz (r1.ext e2) r2 h3 fun z F3 H3 g r3 => k z F3 H3 ((e1.trans e2).trans (g.ext c2.frz)) (c2.grow g) r3
theorem pm_op {op : Operator} {r : R2} {f : D → D → Option D} (ho : OpR X (binaryOp op) r) (hf : OpD X.K r f) (a : PM T X ea ma) (b : PM T X eb mb) : PM T X (.BinOp ea op eb pos) (op2M f ma mb) := by
  obtain ⟨ta, pa, ha⟩ := a.ex
  obtain ⟨tb, pb, hb⟩ := b.ex
  exact ⟨_, pe_op ho pa pb, fun dk dc F0 H0 F H σ st st' d Q c hm k => op2_core hf ha hb c hm k⟩
theorem pm_cmp {op : CmpOp} {r : R2} {f : D → D → Option D} (ho : OpR X (compareOp op) r) (hf : OpD X.K r f) (a : PM T X ea ma) (b : PM T X eb mb) (hm : behindInMarks op eb = false := by first | exact nomark _ | rfl) : PM T X (.Compare ea [op] [eb] pos) (op2M f ma mb) := by
  obtain ⟨ta, pa, ha⟩ := a.ex
  obtain ⟨tb, pb, hb⟩ := b.ex
  exact ⟨_, pe_cmpR ho pa pb hm, fun dk dc F0 H0 F H σ st st' d Q c hm k => op2_core hf ha hb c hm k⟩
theorem pmt_cmp {op : CmpOp} {r : R2} {f : D → D → Option D} (ho : OpR X (compareOp op) r) (hf : OpD X.K r f) (a : PM T X ea ma) (b : PM T X eb mb) (hm : behindInMarks op eb = false := by first | exact nomark _ | rfl) : PMT T X (.Compare ea [op] [eb] pos) (testM (op2M f ma mb)) := by
  obtain ⟨ta, pa, ha⟩ := a.ex
  obtain ⟨tb, pb, hb⟩ := b.ex
  refine ⟨_, pt_cmpR ho pa pb hm, fun dk dc F0 H0 F H σ st st' d Q c hm k => ?_⟩
  obtain ⟨x, s1, h1, hm⟩ := bindM_some hm
  obtain ⟨h3, rfl⟩ := liftM_some hm
  refine op2_core hf ha hb c h1 fun v F1 H1 e1 c1 r1 => ?_
  cases x <;> first | cases h3 | skip
  cases r1
  exact ⟨_, rfl, k F1 H1 e1 c1⟩
theorem pmt_val (h : PM T X e ma) (he : ∀ whole, isTrue e X.env whole = (do let v ← whole; standAt e.pos; holding [v] (truthy v)) := by intro _; rfl) : PMT T X e (testM ma) := by
  obtain ⟨ta, pa, ha⟩ := h.ex
  refine ⟨_, pt_val pa he, fun dk dc F0 H0 F H σ st st' d Q c hm k => ?_⟩
  obtain ⟨x, s1, h1, hm⟩ := bindM_some hm
  obtain ⟨h3, rfl⟩ := liftM_some hm
  refine ha dk dc F0 H0 F H σ st _ x _ c h1 fun v F1 H1 e1 c1 r1 => ?_
  cases x <;> first | cases h3 | skip
  cases r1
  exact ⟨_, rfl, k F1 H1 e1 c1⟩
theorem PMW.pmt (h : PMW T X e t1) : PMT T X e t1 := let ⟨t, p, q⟩ := h.ex; ⟨t, p.pt, q⟩
theorem pmw_and1 (h : PMT T X e t1) : PMW T X (.BoolOp .And [e] pos) t1 := let ⟨t, p, q⟩ := h.ex; ⟨t, pw_and1 p, q⟩
theorem pmw_or1 (h : PMT T X e t1) : PMW T X (.BoolOp .Or [e] pos) t1 := let ⟨t, p, q⟩ := h.ex; ⟨t, pw_or1 p, q⟩
theorem pmw_and {rest : List Expr} (a : PMT T X ea t1) (b : PMW T X (.BoolOp .And (eb :: rest) pos) t2) : PMW T X (.BoolOp .And (ea :: eb :: rest) pos) (tAndM t1 t2) := by
  obtain ⟨ta, pa, ha⟩ := a.ex
  obtain ⟨tb, pb, hb⟩ := b.ex
  refine ⟨_, pw_and pa pb, fun dk dc F0 H0 F H σ st st' d Q c hm k => ?_⟩
  obtain ⟨x, s1, h1, hm⟩ := bindM_some hm
  refine ha dk dc F0 H0 F H σ st _ x _ c h1 fun F1 H1 e1 c1 => ?_
  cases x with
  | true =>
    simp only [if_true] at hm ⊢
    exact hb dk dc F0 H0 F1 H1 σ s1 _ _ _ c1 hm fun F2 H2 e2 c2 => k F2 H2 (e1.trans e2) c2
  | false =>
    simp only [Bool.false_eq_true, if_false] at hm ⊢
    cases hm
    exact k F1 H1 e1 c1
theorem pmw_or {rest : List Expr} (a : PMT T X ea t1) (b : PMW T X (.BoolOp .Or (eb :: rest) pos) t2) : PMW T X (.BoolOp .Or (ea :: eb :: rest) pos) (tOrM t1 t2) := by
  obtain ⟨ta, pa, ha⟩ := a.ex
  obtain ⟨tb, pb, hb⟩ := b.ex
  refine ⟨_, pw_or pa pb, fun dk dc F0 H0 F H σ st st' d Q c hm k => ?_⟩
  obtain ⟨x, s1, h1, hm⟩ := bindM_some hm
  refine ha dk dc F0 H0 F H σ st _ x _ c h1 fun F1 H1 e1 c1 => ?_
  cases x with
  | false =>
    simp only [Bool.false_eq_true, if_false] at hm ⊢
    exact hb dk dc F0 H0 F1 H1 σ s1 _ _ _ c1 hm fun F2 H2 e2 c2 => k F2 H2 (e1.trans e2) c2
  | true =>
    simp only [if_true] at hm ⊢
    cases hm
    exact k F1 H1 e1 c1
theorem pmt_not (a : PMT T X e t1) : PMT T X (.UnaryOp .Not e pos) (tNotM t1) := by
  obtain ⟨ta, pa, ha⟩ := a.ex
  refine ⟨_, pt_not pa, fun dk dc F0 H0 F H σ st st' d Q c hm k => ?_⟩
  obtain ⟨x, s1, h1, hm⟩ := bindM_some hm
  cases hm
  exact ha dk dc F0 H0 F H σ st _ x _ c h1 fun F1 H1 e1 c1 => k F1 H1 e1 c1
theorem pm_one {op} (a : PM T X e ma) : PM T X (.BoolOp op [e] pos) ma := let ⟨t, p, q⟩ := a.ex; ⟨t, pe_one p, q⟩
theorem pm_and {rest : List Expr} (a : PM T X ea ma) (b : PM T X (.BoolOp .And (eb :: rest) pos) mb) : PM T X (.BoolOp .And (ea :: eb :: rest) pos) (andM ma mb) := by
  obtain ⟨ta, pa, ha⟩ := a.ex
  obtain ⟨tb, pb, hb⟩ := b.ex
  refine ⟨_, pe_and pa pb, fun dk dc F0 H0 F H σ st st' d Q c hm k => ?_⟩
  obtain ⟨x, s1, h1, hm⟩ := bindM_some hm
  obtain ⟨kb, s2, h2, hm⟩ := bindM_some hm
  obtain ⟨h3, rfl⟩ := liftM_some h2
  refine ha dk dc F0 H0 F H σ st _ x _ c h1 fun v F1 H1 e1 c1 r1 => ?_
  cases x <;> first | cases h3 | skip
  cases r1
  refine ⟨_, rfl, ?_⟩
  cases kb with
  | true =>
    simp only [if_true] at hm ⊢
    exact hb dk dc F0 H0 F1 H1 σ _ _ _ _ c1 hm fun w F2 H2 e2 c2 r2 => k w F2 H2 (e1.trans e2) c2 r2
  | false =>
    simp only [Bool.false_eq_true, if_false] at hm ⊢
    cases hm
    exact k _ F1 H1 e1 c1 (.bl false)
theorem pm_or {rest : List Expr} (a : PM T X ea ma) (b : PM T X (.BoolOp .Or (eb :: rest) pos) mb) : PM T X (.BoolOp .Or (ea :: eb :: rest) pos) (orM ma mb) := by
  obtain ⟨ta, pa, ha⟩ := a.ex
  obtain ⟨tb, pb, hb⟩ := b.ex
  refine ⟨_, pe_or pa pb, fun dk dc F0 H0 F H σ st st' d Q c hm k => ?_⟩
  obtain ⟨x, s1, h1, hm⟩ := bindM_some hm
  obtain ⟨kb, s2, h2, hm⟩ := bindM_some hm
  obtain ⟨h3, rfl⟩ := liftM_some h2
  refine ha dk dc F0 H0 F H σ st _ x _ c h1 fun v F1 H1 e1 c1 r1 => ?_
  cases x <;> first | cases h3 | skip
  cases r1
  refine ⟨_, rfl, ?_⟩
  cases kb with
  | false =>
    simp only [Bool.false_eq_true, if_false] at hm ⊢
    exact hb dk dc F0 H0 F1 H1 σ _ _ _ _ c1 hm fun w F2 H2 e2 c2 r2 => k w F2 H2 (e1.trans e2) c2 r2
  | true =>
    simp only [if_true] at hm ⊢
    cases hm
    exact k _ F1 H1 e1 c1 (.bl true)
theorem pm_not (a : PM T X e ma) : PM T X (.UnaryOp .Not e pos) (notM ma) := by
  obtain ⟨ta, pa, ha⟩ := a.ex
  refine ⟨_, pe_not pa, fun dk dc F0 H0 F H σ st st' d Q c hm k => ?_⟩
  obtain ⟨x, s1, h1, hm⟩ := bindM_some hm
  obtain ⟨kb, s2, h2, hm⟩ := bindM_some hm
  obtain ⟨h3, z3⟩ := liftM_some h2
  obtain ⟨z4, z5⟩ := pureM_some hm
  subst z5 z3 z4
  refine ha dk dc F0 H0 F H σ st _ x _ c h1 fun v F1 H1 e1 c1 r1 => ?_
  cases x <;> first | cases h3 | skip
  cases r1
  exact ⟨_, rfl, k _ F1 H1 e1 c1 (.bl _)⟩
theorem pm_if (t : PMT T X e t1) (a : PM T X ea ma) (b : PM T X eb mb) : PM T X (.IfExp e ea eb pos) (ifM t1 ma mb) := by
  obtain ⟨tt, pt, ht⟩ := t.ex
  obtain ⟨ta, pa, ha⟩ := a.ex
  obtain ⟨tb, pb, hb⟩ := b.ex
  refine ⟨_, pe_ifExp pt pa pb, fun dk dc F0 H0 F H σ st st' d Q c hm k => ?_⟩
  obtain ⟨x, s1, h1, hm⟩ := bindM_some hm
  refine ht dk dc F0 H0 F H σ st _ x _ c h1 fun F1 H1 e1 c1 => ?_
  cases x with
  | true =>
    simp only [if_true] at hm ⊢
    exact ha dk dc F0 H0 F1 H1 σ _ _ _ _ c1 hm fun w F2 H2 e2 c2 r2 => k w F2 H2 (e1.trans e2) c2 r2
  | false =>
    simp only [Bool.false_eq_true, if_false] at hm ⊢
    exact hb dk dc F0 H0 F1 H1 σ _ _ _ _ c1 hm fun w F2 H2 e2 c2 r2 => k w F2 H2 (e1.trans e2) c2 r2
theorem pma_nil : PMA T X [] (pureM []) := ⟨_, pa_nil, fun dk dc F0 H0 F H σ st st' d Q c hm k => by
  cases hm
  exact k [] F H (Ext.refl F) c .nil⟩
theorem pma_cons {mr : M (List D)} (a : PM T X e ma) (r : PMA T X es mr) (hs : starEach (e :: es) X.env = (false, eval e X.env) :: starEach es X.env := by rfl) : PMA T X (e :: es) (consM ma mr) := by
  obtain ⟨ta, pa, ha⟩ := a.ex
  obtain ⟨tb, pb, hb⟩ := r.ex
  refine ⟨_, pa_cons pa pb hs, fun dk dc F0 H0 F H σ st st' d Q c hm k => ?_⟩
  obtain ⟨x, s1, h1, hm⟩ := bindM_some hm
  obtain ⟨xs, s2, h2, hm⟩ := bindM_some hm
  cases hm
  refine ha dk dc F0 H0 F H σ st _ x _ c h1 fun v F1 H1 e1 c1 r1 => ?_
  exact hb dk dc F0 H0 F1 H1 σ _ _ _ _ c1 h2 fun w F2 H2 e2 c2 r2 => k (v :: w) F2 H2 (e1.trans e2) c2 (.cons (r1.ext e2) r2)
theorem pm_chain {op op' : CmpOp} {r r' : R2} {f g : D → D → Option D} (hmk : lastMarks [op, op'] [eb, ec] = false) (ho : OpR X (compareOp op) r) (hf : OpD X.K r f) (ho' : OpR X (compareOp op') r') (hg : OpD X.K r' g) (a : PM T X ea ma) (b : PM T X eb mb) (cc : PM T X ec mc) :
    PM T X (.Compare ea [op, op'] [eb, ec] pos) (chainM f g ma mb mc) := by
  obtain ⟨ta, pa, ha⟩ := a.ex
  obtain ⟨tb, pb, hb⟩ := b.ex
  obtain ⟨tc, pc, hc⟩ := cc.ex
  refine ⟨_, pe_chain ho ho' pa pb pc hmk, fun dk dc F0 H0 F H σ st st' d Q c hm k => ?_⟩
  obtain ⟨x, s1, h1, m1⟩ := bindM_some hm
  obtain ⟨y, s2, h2, m2⟩ := bindM_some m1
  obtain ⟨z, s3, h3', m3⟩ := bindM_some m2
  obtain ⟨h3, z3⟩ := liftM_some h3'
  obtain ⟨kb, s4, h4', m4⟩ := bindM_some m3
  obtain ⟨h4, z4⟩ := liftM_some h4'
  clear hm m1 m2 m3 h3' h4'
  subst z4 z3
  refine ha dk dc F0 H0 F H σ st s1 x _ c h1 fun v F1 H1 e1 c1 r1 => ?_
  refine hb dk dc F0 H0 F1 H1 σ s1 _ y _ c1 h2 fun w F2 H2 e2 c2 r2 => ?_
  refine hf F2 H2 v w x y z _ c2.frz (r1.ext e2) r2 h3 fun u F3 H3 g3 r3 => ?_
  obtain ⟨kk, rfl⟩ : ∃ kk, z = .bl kk := by
    cases z with
    | bl kk => exact ⟨kk, rfl⟩
    | _ => cases h4
  cases h4
  cases r3
  refine ⟨_, rfl, ?_⟩
  have e3 := g3.ext c2.frz
  have c3 := c2.grow g3
  cases kb with
  | true =>
    simp only [if_true] at m4 ⊢
    obtain ⟨w', s5, h5, m5⟩ := bindM_some m4
    obtain ⟨h6, z6⟩ := liftM_some m5
    clear m4 m5
    subst z6
    refine hc dk dc F0 H0 F3 H3 σ _ _ _ _ c3 h5 fun u4 F4 H4 e4 c4 r4 => ?_
    exact hg F4 H4 w u4 y w' d Q c4.frz ((r2.ext e3).ext e4) r4 h6 fun z F5 H5 g5 r5 => k z F5 H5 ((((e1.trans e2).trans e3).trans e4).trans (g5.ext c4.frz)) (c4.grow g5) r5
  | false =>
    simp only [Bool.false_eq_true, if_false] at m4 ⊢
    obtain ⟨z6, z7⟩ := pureM_some m4
    subst z6 z7
    exact k _ F3 H3 ((e1.trans e2).trans e3) c3 (.bl false)
end
end GA

set_option Elab.async false
set_option linter.all false
set_option maxRecDepth 100000
set_option maxHeartbeats 2000000
/-! enumerate over a tuple -/
namespace GA
open PySem PySem.Spec PyProof.Rows L2 GenW

set_option maxHeartbeats 4000000 in
theorem meets_enum1 {v : Value} {o : Obj} {St : Heap → Prop} (B : Begins v o St) :
    Meets (Builtin.«enumerate.__new__» ⟨[.type "enumerate", v], []⟩) (fun _ R s => St s.heap ∧
      R (.ok (.ret (.ref (s.heap.push o).objs.size))) { s with heap := (s.heap.push o).push { cls := .type "enumerate", data := .fields #[.none, .bool false, .ref s.heap.objs.size, rawInt 0, .none, .none] } }) := by
  refine .of_wp fun prog w A R s hq => ?_
  obtain ⟨hp, g, d, tk, os⟩ := s
  obtain ⟨hst, hr⟩ := hq
  have sub := sub_enumerate
  have it1 : ∀ {B' : Around} {E : Value → Shared → Prop} {Q : Value → Shared → Prop}, Q (.ref hp.objs.size) ⟨hp.push o, g, d, tk, os⟩ → wpAny (model prog w) B' (pyIter v) Q E ⟨hp, g, d, tk, os⟩ := by
    intro B' E Q q
    exact B.iter prog w _ _ ⟨hp, g, d, tk, os⟩ _ hst q
  wp_walk using it1
  refine wpAny_stack_any fun stk => wpAny_pure ?_
  split
  · next c _ _ _ _ _ =>
    cases (c == Value.type "enumerate")
    all_goals
      wp_walk using it1
      exact ⟨_, rfl, hr⟩
  · wp_walk using it1
    exact ⟨_, rfl, hr⟩

section
variable {prog : Program} {w : World} {A : Around} {E : Value → Shared → Prop} {s : Shared}
theorem call_enum1 {v : Value} {o : Obj} {St : Heap → Prop} {Q : Value → Shared → Prop} (B : Begins v o St) (h1 : St s.heap)
    (h : ∀ h', IsEnum h' (s.heap.objs.size + 1) s.heap.objs.size 0 .none → h'.get? s.heap.objs.size = some o → (∀ b u, s.heap.get? b = some u → h'.get? b = some u) →
      Q (.ref (s.heap.objs.size + 1)) { s with heap := h' }) : wpAny (model prog w) A (call (.type "enumerate") [v]) Q E s := by
  refine callType_new F.called_enumerate (by decide) (F.typeCall_enumerate_1 _) (F.newCall_enumerate_1 _) (fun obj => F.args_object_init_2 obj _) F.entry_enumerate_new
    (meets_enum1 B) ⟨h1, ?_⟩
  have hz : (s.heap.push o).objs.size = s.heap.objs.size + 1 := Heap.size_push ..
  show _ ∧ _
  rw [hz]
  have en : IsEnum ((s.heap.push o).push { cls := .type "enumerate", data := .fields #[.none, .bool false, .ref s.heap.objs.size, rawInt 0, .none, .none] }) (s.heap.objs.size + 1) s.heap.objs.size 0 .none := by
    have q := Heap.get?_push_size (s.heap.push o) (o := { cls := .type "enumerate", data := .fields #[.none, .bool false, .ref s.heap.objs.size, rawInt 0, .none, .none] }) rfl
    rw [hz] at q
    exact q
  exact ⟨⟨_, en, rfl⟩, h _ en (Heap.get?_push_of_some _ (Heap.get?_push_size _ B.free)) fun b u x => Heap.get?_push_of_some _ (Heap.get?_push_of_some _ x)⟩
end

/-- enumerate of the tuple at a -/
def ItET (K : PySem.W.Frag) (a : Addr) : It :=
  ⟨fun i H => ∃ (xs : List V) (x : V), SqT K H a xs ∧ xs[i]? = some x,
   fun i H v H' => ∃ q x, v = .ref q ∧ H q = none ∧ H' = upd H q (.tup [.int (i : Nat), x]) ∧ ∀ xs, SqT K H a xs → xs[i]? = some x,
   fun i H => ∃ xs : List V, SqT K H a xs ∧ xs.length = i⟩

theorem ne_fp {X : Cx} {pins : List (Addr × Obj)} {σ : L2.St} {H : Hp} {s : Shared} {a b : Addr} {xs : List V} (I : Inv X pins σ H s) (h : SqT X.K H a xs) (f : FpOk X pins H b) : b ≠ a := by
  rintro rfl
  rcases h with (h | ⟨o, h⟩) | ⟨o, its, n, hk, _⟩
  · rw [f.1] at h; cases h
  · rw [f.1] at h; cases h
  · have hb := I.ok.mod.kin _ _ hk
    rcases f.2.2.2.1 with z | z
    · exact I.ok.noex _ _ hb z
    · exact absurd (Nat.lt_of_lt_of_le (Heap.lt_size hb) (Nat.le_trans I.ok.bsz z)) (Nat.lt_irrefl _)

theorem turn_et {P : Program} {w : World} {K : PySem.W.Frag} {elts : List Expr} {kk : Nat} {tpos : Pos} (a e it : Addr) (hei : e ≠ it) :
    Turn P w K (.Tuple elts kk tpos) (ItET K a) [e, it] e (fun i h => (∃ old, IsEnum h e it ((i : Nat) : Int) old) ∧ h.IsTupleIter it a i) where
  mem := by simp
  obj := by
    intro i h st b hb
    obtain ⟨⟨old, he⟩, ⟨o, ho, hc, hd⟩⟩ := st
    have q : b = e ∨ b = it := by simpa using hb
    rcases q with rfl | rfl
    · exact ⟨_, he, fun v z => nomatch z⟩
    · exact ⟨o, ho, fun v z => by rw [hd] at z; cases z⟩
  keep := by
    intro i h h' st k
    obtain ⟨⟨old, he⟩, hi⟩ := st
    exact ⟨⟨old, k e (by simp) _ he⟩, hi.at fun o q => k it (by simp) o q⟩
  item := by
    intro X hP hw hK hc i pins s σ H E I hf st hg
    subst hP hw hK
    obtain ⟨⟨old, he⟩, hit⟩ := st
    obtain ⟨xs, x, hq, hx⟩ := hg
    obtain ⟨its, rv, p, hz⟩ := I.tuple hq
    obtain ⟨u, hu, ru⟩ := rv.get hx
    have hea := ne_fp I hq (hf e (by simp))
    have hia := ne_fp I hq (hf it (by simp))
    have hil : i < its.toArray.size := by simpa using (List.getElem?_eq_some_iff.mp hu).1
    have elt : e < s.heap.objs.size := Heap.lt_size he
    have tlt : it < s.heap.objs.size := by obtain ⟨_, z, _⟩ := hit; exact Heap.lt_size z
    refine wpAny_pyNext_enum_itemD (Draws.tuple (prog := X.prog) (w := X.w) (A := X.A.in1) (I.ok.hd hc) it a (Ne.symm hia) its.toArray) he ⟨hit, p⟩ hil hei (by simp [hei, hea]) fun y h' tk hy ho hst hT hsz hk => ?_
    have ey : y = u := by
      have z : its.toArray[i]? = some u := by simpa using hu
      rw [z] at hy
      exact (Option.some.inj hy).symm
    subst ey
    refine ⟨_, rfl, wpAny_letOwnedTupleGo_enum (s := { s with heap := h', toks := tk + 1 }) ho fun h2 he2 sb => ?_⟩
    have keep : ∀ b o, b ∉ [e, it] → s.heap.get? b = some o → h2.get? b = some o := fun b o hb z =>
      (sb.2 b (fun q => hb (by simp [q]))).trans (hk b o (fun q => hb (by simp [q])) (fun q => hb (by simp [q])) z)
    have hT2 : h2.get? s.heap.objs.size = some { cls := .type "tuple", data := .seq #[.int i tk, y] } := (sb.2 _ (Nat.ne_of_gt elt)).trans hT
    have I1 := I.turnedNew (t' := tk + 1) (ch := [e, it]) keep hf (Nat.le_refl _) (ob := .tup [.int (i : Nat), x]) ⟨by show 2 ≤ sizeLine; decide, [.int i tk, y], .cons ⟨tk, rfl⟩ (.cons ru .nil), ⟨_, hT2, rfl, _, rfl⟩⟩
    refine ⟨.ref s.heap.objs.size, _, I1, rfl, ⟨_, x, rfl, I.hok.fresh (Nat.le_refl _), rfl, fun ys hys => by rw [I.tuple_inj hys hq]; exact hx⟩, ⟨⟨y, ?_⟩, hst.1.at fun o q => (sb.2 it (Ne.symm hei)).trans q⟩, fun b hb => ?_⟩
    · have e1 : ((i + 1 : Nat) : Int) = (i : Int) + 1 := by omega
      rw [e1]
      exact he2
    · have hb' : b < s.heap.objs.size := by
        have z : b = e ∨ b = it := by simpa using hb
        rcases z with rfl | rfl
        · exact elt
        · exact tlt
      rw [upd_ne (Nat.ne_of_lt hb')]
      exact (hf b hb).1
  done := by
    intro X hP hw hK hc i pins s σ H E I hf st hg
    subst hP hw hK
    obtain ⟨⟨old, he⟩, hit⟩ := st
    obtain ⟨xs, hq, rfl⟩ := hg
    obtain ⟨its, rv, p, hz⟩ := I.tuple hq
    have hia := ne_fp I hq (hf it (by simp))
    have hl : xs.length = its.toArray.size := by rw [rv.length]; simp
    rw [hl] at hit
    obtain ⟨f0, f1, f2, f3, f4, f5⟩ := hf it (by simp)
    exact wpAny_pyNext_enum_endD (Draws.tuple (prog := X.prog) (w := X.w) (A := X.A.in1) (I.ok.hd hc) it a (Ne.symm hia) its.toArray) he ⟨hit, p⟩ fun h' eb => ⟨rfl, I.turned (t' := s.toks) (fun b o hb q => eb b o hb q) f0 f1 f3 f4 f5⟩
  self := by
    intro A i s Q E st h
    obtain ⟨⟨_, he⟩, _⟩ := st
    exact wpAny_pyIter_enum he h

def iEnumT (K : PySem.W.Frag) (ta : TA) : TI := fun σ H R => ta σ H fun vs H1 => ∃ a xs, vs = [.ref a] ∧ SqT K H1 a xs ∧ R (ItET K a) H1
theorem pi_enumT {X : Cx} {e : Expr} {ta : TA} {p pos tpos : Pos} {elts : List Expr} {kk : Nat} (hg : Gl X "enumerate") (hm : X.mg "enumerate" = none) (ha : PA X [e] ta) (hs : starEach [e] X.env = [(false, eval e X.env)] := by rfl) :
    PI X (.Tuple elts kk tpos) (.Call (.Name "enumerate" p) [e] [] pos) (iEnumT X.K ta) := by
  constructor
  intro pins s σ H R I h
  refine Call_ (ld_blt I hg hm boot_enumerate (PyProof.Rows.callWith_type1 (thn (ha.run pos pins s σ H _ I h) ?_) hs rfl))
  rintro us s1 ⟨vs, H1, I1, r1, a, xs, rfl, hq, q⟩
  cases r1 with
  | cons r rr =>
    cases rr
    cases r
    obtain ⟨its, rv, p', hz⟩ := I1.tuple hq
    refine call_enum1 (begins_tuple a its.toArray) p' fun h' he ho hk => wpAny_pyIter_enum he ?_
    have I2 : Inv X pins σ H1 { s1 with heap := h' } := I1.kept (t' := s1.toks) hk
    refine ⟨s1.heap.objs.size + 1, [s1.heap.objs.size + 1, s1.heap.objs.size], _, _, H1, rfl, I2, turn_et a (s1.heap.objs.size + 1) s1.heap.objs.size (Nat.succ_ne_self _), ⟨⟨.none, he⟩, ⟨_, ho, rfl, rfl⟩⟩, fun b hb => ?_, q⟩
    have e' : b = s1.heap.objs.size + 1 ∨ b = s1.heap.objs.size := by simpa using hb
    have hle : s1.heap.objs.size ≤ b := by
      rcases e' with rfl | rfl
      · exact Nat.le_add_right _ _
      · exact Nat.le_refl _
    exact I1.fpOk hle (I1.hok.fresh hle)
end GA

set_option Elab.async false
set_option linter.all false
set_option maxRecDepth 100000
set_option maxHeartbeats 2000000
namespace GA
open PySem PySem.Spec PyProof.Rows L2 GenW

/-! ### an object that must stay while something else is done -/
def hole (F : Hp) (p : Addr) : Hp := fun b => if b = p then none else F b
section
variable {K : PySem.W.Frag} {T : List Addr} {dk dc p : Addr} {F0 H0 F H F' H' : Hp} {σ : L2.St} {st : Sta} {o : HO}
theorem Cfg.nk (c : Cfg K T dk dc F0 H0 F H σ st) (h : H p = none) : p ≠ dk ∧ p ≠ dc := by
  obtain ⟨_, _, d3, d4⟩ := c.deck
  exact ⟨fun z => (by rw [z, d3] at h; cases h), fun z => (by rw [z, d4] at h; cases h)⟩
theorem Cfg.fnone (c : Cfg K T dk dc F0 H0 F H σ st) (h : H p = none) : F p = none := by
  cases q : F p with
  | none => rfl
  | some u => have := (c.frz p u q).1; rw [h] at this; cases this
theorem Cfg.mine_new (c : Cfg K T dk dc F0 H0 F H σ st) (h : H p = none) : Mine dk dc H0 F (upd H p o) p o :=
  ⟨c.fnone h, upd_same, c.base.there p h, (c.nk h).1, (c.nk h).2⟩
theorem Cfg.keepIt (c : Cfg K T dk dc F0 H0 F H σ st) (h : H p = none) (n : ∀ ps, o ≠ .tbl ps) : Cfg K T dk dc (hole F0 p) (upd H0 p o) F (upd H p o) σ st := by
  have g := Grow.mine (o := o) c.frz h
  have c1 := c.grow g
  have fp := c.fnone h
  refine ⟨c1.frz, ⟨fun b u e n1 n2 n3 => ?_, fun b e => ?_⟩, c1.deck, c1.tabs, ⟨c1.env.len, c1.env.dat, fun i xs hx => ?_, fun i xs hx => ?_, c1.env.apart⟩⟩
  · by_cases hb : b = p
    · subst hb
      rw [upd_same] at e ⊢
      cases e
      exact ⟨rfl, by unfold hole; rw [if_pos rfl]; exact fp⟩
    · rw [upd_ne hb] at e
      obtain ⟨x, y⟩ := c1.base.keep b u e n1 n2 n3
      exact ⟨x, by unfold hole; rw [if_neg hb]; exact y⟩
  · by_cases hb : b = p
    · subst hb
      rw [upd_same] at e
      cases e
    · rw [upd_ne hb]
      rw [upd_ne hb] at e
      exact c.base.there b e
  · obtain ⟨a, vs, h1, h2, h3⟩ := c1.env.own i xs hx
    have na : a ≠ p := fun z => by
      obtain ⟨a', vs', h1', h2', _⟩ := c.env.own i xs hx
      rw [h1] at h1'; cases h1'
      rw [z] at h2'
      have := h2'.at_
      rw [h] at this; cases this
    exact ⟨a, vs, h1, ⟨h2.fr, h2.at_, by rw [upd_ne na]; exact h2.new, h2.nk, h2.nc⟩, h3⟩
  · obtain ⟨a, vs, h1, h2, h3⟩ := c1.env.ownd i xs hx
    have na : a ≠ p := fun z => by
      obtain ⟨a', vs', h1', h2', _⟩ := c.env.ownd i xs hx
      rw [h1] at h1'; cases h1'
      rw [z] at h2'
      have := h2'.at_
      rw [h] at this; cases this
    exact ⟨a, vs, h1, ⟨h2.fr, h2.at_, by rw [upd_ne na]; exact h2.new, h2.nk, h2.nc⟩, h3⟩
theorem Cfg.letIt (c : Cfg K T dk dc (hole F0 p) (upd H0 p o) F H σ st) (h : H0 p = none) (n : ∀ ps, o ≠ .tbl ps) (n1 : p ≠ dk) (n2 : p ≠ dc) : Cfg K T dk dc F0 H0 F H σ st ∧ Mine dk dc H0 F H p o := by
  have kp := c.base.keep p o upd_same n n1 n2
  refine ⟨⟨c.frz, ⟨fun b u e m1 m2 m3 => ?_, fun b e => ?_⟩, c.deck, c.tabs, ⟨c.env.len, c.env.dat, fun i xs hx => ?_, fun i xs hx => ?_, c.env.apart⟩⟩, ⟨?_, kp.1, h, n1, n2⟩⟩
  · have hb : b ≠ p := fun z => by rw [z, h] at e; cases e
    have := c.base.keep b u (by rw [upd_ne hb]; exact e) m1 m2 m3
    unfold hole at this
    rw [if_neg hb] at this
    exact this
  · have := c.base.there b e
    by_cases hb : b = p
    · rw [hb]; exact h
    · rw [upd_ne hb] at this; exact this
  · obtain ⟨a, vs, h1, h2, h3⟩ := c.env.own i xs hx
    have na : a ≠ p := fun z => by
      have := h2.new
      rw [z, upd_same] at this; cases this
    exact ⟨a, vs, h1, ⟨h2.fr, h2.at_, by have := h2.new; rw [upd_ne na] at this; exact this, h2.nk, h2.nc⟩, h3⟩
  · obtain ⟨a, vs, h1, h2, h3⟩ := c.env.ownd i xs hx
    have na : a ≠ p := fun z => by
      have := h2.new
      rw [z, upd_same] at this; cases this
    exact ⟨a, vs, h1, ⟨h2.fr, h2.at_, by have := h2.new; rw [upd_ne na] at this; exact this, h2.nk, h2.nc⟩, h3⟩
  · have := kp.2
    unfold hole at this
    rw [if_pos rfl] at this
    exact this
/-- an own object that stands (in no slot) is changed -/
theorem Cfg.turnIt {o' : HO} (c : Cfg K T dk dc F0 H0 F H σ st) (m : Mine dk dc H0 F H p o) (n : ∀ ps, o ≠ .tbl ps) (hn : ∀ (i : Nat) x, st.r[i]? = some x → (∀ d, x ≠ .dat d) → x ≠ .un → σ[i]? ≠ some (some (.ref p))) : Cfg K T dk dc F0 H0 F (upd H p o') σ st := by
  obtain ⟨d1, d2, d3, d4⟩ := c.deck
  refine ⟨fun b u e => ?_, ⟨fun b u e m1 m2 m3 => ?_, fun b e => ?_⟩, ⟨d1, d2, by rw [upd_ne (Ne.symm m.nk)]; exact d3, by rw [upd_ne (Ne.symm m.nc)]; exact d4⟩, fun P hP => ?_, ⟨c.env.len, c.env.dat, fun i xs hx => ?_, fun i xs hx => ?_, c.env.apart⟩⟩
  · have hb : b ≠ p := fun z => by rw [z, m.fr] at e; cases e
    rw [upd_ne hb]; exact c.frz b u e
  · have hb : b ≠ p := fun z => by rw [z, m.new] at e; cases e
    rw [upd_ne hb]; exact c.base.keep b u e m1 m2 m3
  · by_cases hb : b = p
    · rw [hb]; exact m.new
    · rw [upd_ne hb] at e; exact c.base.there b e
  · obtain ⟨ps, h, ht⟩ := c.tabs P hP
    have hb : P ≠ p := fun z => by
      rw [z, m.at_] at h
      exact n ps (Option.some.inj h)
    exact ⟨ps, by rw [upd_ne hb]; exact h, ht⟩
  · obtain ⟨a, vs, h1, h2, h3⟩ := c.env.own i xs hx
    have hb : a ≠ p := fun z => hn i _ hx (fun d q => by cases q) (fun q => by cases q) (by rw [← z]; exact h1)
    exact ⟨a, vs, h1, ⟨h2.fr, by rw [upd_ne hb]; exact h2.at_, h2.new, h2.nk, h2.nc⟩, h3⟩
  · obtain ⟨a, vs, h1, h2, h3⟩ := c.env.ownd i xs hx
    have hb : a ≠ p := fun z => hn i _ hx (fun d q => by cases q) (fun q => by cases q) (by rw [← z]; exact h1)
    exact ⟨a, vs, h1, ⟨h2.fr, by rw [upd_ne hb]; exact h2.at_, h2.new, h2.nk, h2.nc⟩, h3⟩
end

/-! ### statements -/
inductive Fl where
  | nx | rt (d : D) | bk | ct
/-- what is left behind, the slots aside -/
structure Out (K : PySem.W.Frag) (T : List Addr) (dk dc : Addr) (F0 H0 F H : Hp) (s : S) : Prop where
  frz : Frz F H
  base : Base dk dc F0 H0 F H
  deck : DeckAt dk dc F H s
  tabs : ∀ P ∈ T, GxR.TabG H P
theorem Cfg.out {K : PySem.W.Frag} {T : List Addr} {dk dc : Addr} {F0 H0 F H : Hp} {σ : L2.St} {st : Sta} (c : Cfg K T dk dc F0 H0 F H σ st) : Out K T dk dc F0 H0 F H st.s := ⟨c.frz, c.base, c.deck, c.tabs⟩
def After (K : PySem.W.Frag) (T : List Addr) (dk dc : Addr) (F0 H0 F : Hp) (De : Ends) (fl : Fl) (st' : Sta) : Prop := match fl with
  | .nx => ∀ σ' F' H', Ext F F' → Cfg K T dk dc F0 H0 F' H' σ' st' → De.nx σ' H'
  | .bk => ∀ σ' F' H', Ext F F' → Cfg K T dk dc F0 H0 F' H' σ' st' → De.bk σ' H'
  | .ct => ∀ σ' F' H', Ext F F' → Cfg K T dk dc F0 H0 F' H' σ' st' → De.ct σ' H'
  | .rt d => ∀ v F' H', Ext F F' → Out K T dk dc F0 H0 F' H' st'.s → Rep K F' v d → De.rt v H'
structure PMS (T : List Addr) (X : Cx) (e : Stmt) (m : M Fl) : Prop where
  ex : ∃ t : TS, PS X e t ∧ ∀ (dk dc : Addr) (F0 H0 F H : Hp) (σ : L2.St) (st st' : Sta) (fl : Fl) (De : Ends), Cfg X.K T dk dc F0 H0 F H σ st → m st = some (fl, st') →
    After X.K T dk dc F0 H0 F De fl st' → t De σ H
structure PMSs (T : List Addr) (X : Cx) (e : List Stmt) (m : M Fl) : Prop where
  ex : ∃ t : TS, PSs X e t ∧ ∀ (dk dc : Addr) (F0 H0 F H : Hp) (σ : L2.St) (st st' : Sta) (fl : Fl) (De : Ends), Cfg X.K T dk dc F0 H0 F H σ st → m st = some (fl, st') →
    After X.K T dk dc F0 H0 F De fl st' → t De σ H
theorem After.mono {K : PySem.W.Frag} {T : List Addr} {dk dc : Addr} {F0 H0 F F1 : Hp} {De : Ends} {fl : Fl} {st' : Sta} (h : After K T dk dc F0 H0 F De fl st') (e : Ext F F1) : After K T dk dc F0 H0 F1 De fl st' := by
  cases fl with
  | nx => exact fun σ' F' H' e1 c => h σ' F' H' (e.trans e1) c
  | bk => exact fun σ' F' H' e1 c => h σ' F' H' (e.trans e1) c
  | ct => exact fun σ' F' H' e1 c => h σ' F' H' (e.trans e1) c
  | rt d => exact fun v F' H' e1 o r => h v F' H' (e.trans e1) o r

def seqM (a b : M Fl) : M Fl := bindM a fun fl => match fl with
  | .nx => b
  | .rt d => pureM (.rt d)
  | .bk => pureM .bk
  | .ct => pureM .ct
def retM (a : M D) : M Fl := bindM a fun d => pureM (.rt d)
def ifS (c : M Bool) (a b : M Fl) : M Fl := bindM c fun k => if k then a else b
def dropM (a : M D) : M Fl := bindM a fun _ => pureM .nx
def neverM : M Fl := fun _ => none
/-- a target -/
def tgN (i : Nat) : D → M Unit := fun d st => some ((), { st with r := st.r.set i (.dat d) })
def tgAll : List (D → M Unit) → List D → M Unit
  | [], [] => pureM ()
  | k :: ks, d :: ds => bindM (k d) fun _ => tgAll ks ds
  | _, _ => fun _ => none
def tgT (ks : List (D → M Unit)) : D → M Unit := fun d => match d with
  | .tup _ ds => tgAll ks ds
  | .lst ds => tgAll ks ds
  | _ => fun _ => none
def asgM (m : M D) (k : D → M Unit) : M Fl := bindM m fun d => bindM (k d) fun _ => pureM .nx
/-- a name takes a list of its own -/
def ownM (i : Nat) (m : M (List D)) : M Fl := bindM m fun ds => fun st => some (.nx, { st with r := st.r.set i (.own ds) })
def loopM (k : D → M Unit) (body : M Fl) : List D → M Fl
  | [] => pureM .nx
  | d :: r => bindM (k d) fun _ => bindM body fun fl => match fl with
    | .nx => loopM k body r
    | .ct => loopM k body r
    | .bk => pureM .nx
    | .rt d => pureM (.rt d)
def forM (it : M (List D)) (k : D → M Unit) (body : M Fl) : M Fl := bindM it fun ds => loopM k body ds

/-- the slots outside is stay -/
def Same (is : List Nat) (σ σ' : L2.St) : Prop := σ'.length = σ.length ∧ ∀ j : Nat, j ∉ is → σ'[j]? = σ[j]?
theorem Same.refl (is : List Nat) (σ : L2.St) : Same is σ σ := ⟨rfl, fun _ _ => rfl⟩
structure PMG (T : List Addr) (X : Cx) (tg : Expr) (k : D → M Unit) (is : List Nat) : Prop where
  ex : ∃ g : TG, PG X tg g ∧ ∀ (dk dc : Addr) (F0 H0 F H : Hp) (σ : L2.St) (st st' : Sta) (v : V) (d : D) (Q : L2.St → Hp → Prop), Cfg X.K T dk dc F0 H0 F H σ st → Rep X.K F v d → k d st = some ((), st') →
    (∀ σ' F' H', Ext F F' → Cfg X.K T dk dc F0 H0 F' H' σ' st' → Same is σ σ' → Q σ' H') → g v σ H Q
structure PMGs (T : List Addr) (X : Cx) (tgs : List Expr) (ks : List (D → M Unit)) (is : List Nat) : Prop where
  ex : ∃ g : TGs, PGs X tgs g ∧ ∀ (dk dc : Addr) (F0 H0 F H : Hp) (σ : L2.St) (st st' : Sta) (vs : List V) (ds : List D) (Q : L2.St → Hp → Prop), Cfg X.K T dk dc F0 H0 F H σ st → Reps X.K F vs ds → tgAll ks ds st = some ((), st') →
    (∀ σ' F' H', Ext F F' → Cfg X.K T dk dc F0 H0 F' H' σ' st' → Same is σ σ' → Q σ' H') → g vs σ H Q
/-- the items of ds, one at each turn -/
structure WalkD (K : PySem.W.Frag) (J : It) (ds : List D) (F1 : Hp) : Prop where
  goes : ∀ i F H, Ext F1 F → Frz F H → i < ds.length → J.go i H
  stops : ∀ F H, Ext F1 F → Frz F H → J.stop ds.length H
  yields : ∀ i F H x H', Ext F1 F → Frz F H → J.yld i H x H' → ∀ d, ds[i]? = some d → ∃ F', Grow F H F' H' ∧ Rep K F' x d
structure PMI (T : List Addr) (X : Cx) (tg e : Expr) (m : M (List D)) : Prop where
  ex : ∃ wi : TI, PI X tg e wi ∧ ∀ (dk dc : Addr) (F0 H0 F H : Hp) (σ : L2.St) (st st' : Sta) (ds : List D) (R : It → Hp → Prop), Cfg X.K T dk dc F0 H0 F H σ st → m st = some (ds, st') →
    (∀ J F' H', Ext F F' → Cfg X.K T dk dc F0 H0 F' H' σ st' → WalkD X.K J ds F' → R J H') → wi σ H R

section
variable {X : Cx} {T : List Addr} {e ea eb ec tg : Expr} {es : List Expr} {ma mb mc : M D} {t1 t2 : M Bool} {m1 m2 : M Fl} {pos : Pos} {s1 : Stmt} {ss : List Stmt} {k : D → M Unit} {ks : List (D → M Unit)} {ml : M (List D)} {is js : List Nat}
theorem pms_nil : PMSs T X [] (pureM .nx) := ⟨_, pss_nil, fun dk dc F0 H0 F H σ st st' fl De c hm a => by
  obtain ⟨rfl, rfl⟩ := pureM_some hm
  exact a σ F H (Ext.refl F) c⟩
theorem pms_cons (h1 : PMS T X s1 m1) (h2 : PMSs T X ss m2) : PMSs T X (s1 :: ss) (seqM m1 m2) := by
  obtain ⟨t, p, h⟩ := h1.ex
  obtain ⟨u, q, g⟩ := h2.ex
  refine ⟨_, pss_cons p q, fun dk dc F0 H0 F H σ st st' fl De c hm a => ?_⟩
  obtain ⟨f1, s2, hm1, hm2⟩ := bindM_some hm
  refine h dk dc F0 H0 F H σ st s2 f1 { De with nx := u De } c hm1 ?_
  cases f1 with
  | nx => exact fun σ' F' H' e1 c1 => g dk dc F0 H0 F' H' σ' s2 st' fl De c1 hm2 (a.mono e1)
  | rt d =>
    obtain ⟨rfl, rfl⟩ := pureM_some hm2
    exact a
  | bk =>
    obtain ⟨rfl, rfl⟩ := pureM_some hm2
    exact a
  | ct =>
    obtain ⟨rfl, rfl⟩ := pureM_some hm2
    exact a
theorem pms_ret (h : PM T X e ma) : PMS T X (.Return (some e) pos) (retM ma) := by
  obtain ⟨t, p, h⟩ := h.ex
  refine ⟨_, ps_ret p, fun dk dc F0 H0 F H σ st st' fl De c hm a => ?_⟩
  obtain ⟨d, s2, hm1, hm2⟩ := bindM_some hm
  obtain ⟨rfl, rfl⟩ := pureM_some hm2
  exact h dk dc F0 H0 F H σ st _ d De.rt c hm1 fun v F1 H1 e1 c1 r1 => a v F1 H1 e1 c1.out r1
theorem pms_if {b1 b2 : List Stmt} (hc : PMT T X e t1) (h1 : PMSs T X b1 m1) (h2 : PMSs T X b2 m2) : PMS T X (.If e b1 b2 pos) (ifS t1 m1 m2) := by
  obtain ⟨tc, pc, hc⟩ := hc.ex
  obtain ⟨t, p, h⟩ := h1.ex
  obtain ⟨u, q, g⟩ := h2.ex
  refine ⟨_, ps_if pc p q, fun dk dc F0 H0 F H σ st st' fl De c hm a => ?_⟩
  obtain ⟨b, s2, hm1, hm2⟩ := bindM_some hm
  refine hc dk dc F0 H0 F H σ st s2 b _ c hm1 fun F1 H1 e1 c1 => ?_
  cases b with
  | true =>
    simp only [if_true] at hm2 ⊢
    exact h dk dc F0 H0 F1 H1 σ s2 st' fl De c1 hm2 (a.mono e1)
  | false =>
    simp only [Bool.false_eq_true, if_false] at hm2 ⊢
    exact g dk dc F0 H0 F1 H1 σ s2 st' fl De c1 hm2 (a.mono e1)
theorem pms_drop (h : PM T X e ma) (hs : swapsWith e none pos.line X.env = pure false := by rfl) : PMS T X (.Expr e pos) (dropM ma) := by
  obtain ⟨t, p, h⟩ := h.ex
  refine ⟨_, ps_expr p hs, fun dk dc F0 H0 F H σ st st' fl De c hm a => ?_⟩
  obtain ⟨d, s2, hm1, hm2⟩ := bindM_some hm
  obtain ⟨rfl, rfl⟩ := pureM_some hm2
  exact h dk dc F0 H0 F H σ st _ d _ c hm1 fun v F1 H1 e1 c1 r1 => a σ F1 H1 e1 c1
theorem pms_never : PMS T X s1 neverM := ⟨_, ps_never, fun dk dc F0 H0 F H σ st st' fl De c hm a => by cases hm⟩
theorem pmss_never : PMSs T X ss neverM := ⟨_, pss_never, fun dk dc F0 H0 F H σ st st' fl De c hm a => by cases hm⟩
theorem pms_break : PMS T X (.Break pos) (pureM .bk) := ⟨_, ps_break, fun dk dc F0 H0 F H σ st st' fl De c hm a => by
  obtain ⟨rfl, rfl⟩ := pureM_some hm
  exact a σ F H (Ext.refl F) c⟩
theorem pms_pass : PMS T X (.Pass pos) (pureM .nx) := ⟨_, ps_pass, fun dk dc F0 H0 F H σ st st' fl De c hm a => by
  obtain ⟨rfl, rfl⟩ := pureM_some hm
  exact a σ F H (Ext.refl F) c⟩
theorem pms_asg (h : PM T X e ma) (hg : PMG T X tg k is) (hs : swapsWithSole [tg] e pos.line X.env = pure false := by rfl) (hw : swappedStores [tg] e X.env = pure none := by rfl)
    (h1 : (assignEach [tg] X.env).map (·.2) = [assign tg X.env] := by rfl) : PMS T X (.Assign [tg] e pos) (asgM ma k) := by
  obtain ⟨t, p, h⟩ := h.ex
  obtain ⟨g, q, hg⟩ := hg.ex
  refine ⟨_, ps_asg p q hs hw h1, fun dk dc F0 H0 F H σ st st' fl De c hm a => ?_⟩
  obtain ⟨d, s2, hm1, hm2⟩ := bindM_some hm
  obtain ⟨u, s3, hm3, hm4⟩ := bindM_some hm2
  obtain ⟨rfl, rfl⟩ := pureM_some hm4
  refine h dk dc F0 H0 F H σ st s2 d _ c hm1 fun v F1 H1 e1 c1 r1 => ?_
  exact hg dk dc F0 H0 F1 H1 σ s2 _ v d De.nx c1 r1 hm3 fun σ' F' H' e2 c2 _ => a σ' F' H' (e1.trans e2) c2
/-- name = e -/
theorem pms_set (i : Nat) {x : Str} {pos' : Pos} (h : PM T X e ma) (hN : X.N.Nodup) (hi : X.N[i]? = some x := by rfl) (hx : Loc X.env.scope x := by first | exact .inl rfl | exact .inr rfl) (hs : swapsWith e (some (.Name x pos')) pos.line X.env = pure false := by rfl)
    (hf : X.fn x = true ∨ X.env.scope.names.lookup x = some .local := by first | exact .inl rfl | exact .inr rfl | assumption) : PMS T X (.Assign [.Name x pos'] e pos) (asgM ma (tgN i)) := by
  obtain ⟨t, p, h⟩ := h.ex
  refine ⟨_, ps_set hN hi hx p hs hf, fun dk dc F0 H0 F H σ st st' fl De c hm a => ?_⟩
  obtain ⟨d, s2, hm1, hm2⟩ := bindM_some hm
  obtain ⟨u, s3, hm3, hm4⟩ := bindM_some hm2
  obtain ⟨rfl, rfl⟩ := pureM_some hm4
  refine h dk dc F0 H0 F H σ st s2 d _ c hm1 fun v F1 H1 e1 c1 r1 => ?_
  cases hm3
  exact a _ F1 H1 e1 ⟨c1.frz, c1.base, c1.deck, c1.tabs, c1.env.set r1⟩
/-- name = a new list, kept as the name's own -/
theorem pms_own (i : Nat) {x : Str} {pos' : Pos} (h : PML T X e ml) (hN : X.N.Nodup) (hi : X.N[i]? = some x := by rfl) (hx : Loc X.env.scope x := by first | exact .inl rfl | exact .inr rfl) (hs : swapsWith e (some (.Name x pos')) pos.line X.env = pure false := by rfl)
    (hf : X.fn x = true ∨ X.env.scope.names.lookup x = some .local := by first | exact .inl rfl | exact .inr rfl | assumption) : PMS T X (.Assign [.Name x pos'] e pos) (ownM i ml) := by
  obtain ⟨t, p, h⟩ := h.ex
  refine ⟨_, ps_set hN hi hx p hs hf, fun dk dc F0 H0 F H σ st st' fl De c hm a => ?_⟩
  obtain ⟨ds, s2, hm1, hm2⟩ := bindM_some hm
  cases hm2
  refine h dk dc F0 H0 F H σ st s2 ds _ c hm1 fun p vs F1 H1 e1 c1 hp r1 hz => ?_
  have c2 := c1.grow (Grow.mine (o := .lst vs) c1.frz hp)
  refine a _ F1 _ e1 ⟨c2.frz, c2.base, c2.deck, c2.tabs, c2.env.setOwn (.inl ⟨ds, vs, rfl, c1.mine_new hp, r1⟩) fun j y hj hy n1 n2 hs => ?_⟩
  cases y with
  | un => exact n2 rfl
  | dat d => exact n1 d rfl
  | own xs =>
    obtain ⟨b, ws, z1, z2, _⟩ := c1.env.own j xs hy
    rw [z1] at hs; cases hs
    have := z2.at_
    rw [hp] at this; cases this
  | ownd xs =>
    obtain ⟨b, ws, z1, z2, _⟩ := c1.env.ownd j xs hy
    rw [z1] at hs; cases hs
    have := z2.at_
    rw [hp] at this; cases this
/-- a new list as a datum -/
theorem pm_ofL (h : PML T X e ml) : PM T X e (bindM ml fun ds => pureM (.lst ds)) := by
  obtain ⟨t, p, h⟩ := h.ex
  refine ⟨t, p, fun dk dc F0 H0 F H σ st st' d Q c hm q => ?_⟩
  obtain ⟨ds, s2, hm1, hm2⟩ := bindM_some hm
  obtain ⟨rfl, rfl⟩ := pureM_some hm2
  refine h dk dc F0 H0 F H σ st _ ds _ c hm1 fun p vs F1 H1 e1 c1 hp r1 hz => ?_
  have g := Grow.new (o := .lst vs) c1.frz hp fun ps z => by cases z
  have e2 := g.ext c1.frz
  exact q _ _ _ (e1.trans e2) (c1.grow g) (.lst upd_same (r1.ext e2))

theorem pmg_name (i : Nat) {x : Str} (hN : X.N.Nodup) (hi : X.N[i]? = some x := by rfl) (hx : Loc X.env.scope x := by first | exact .inl rfl | exact .inr rfl)
    (hf : X.fn x = true ∨ X.env.scope.names.lookup x = some .local := by first | exact .inl rfl | exact .inr rfl | assumption) : PMG T X (.Name x pos) (tgN i) [i] :=
  ⟨_, pg_name hN hi hx hf, fun dk dc F0 H0 F H σ st st' v d Q c r hm q => by
    cases hm
    exact q _ F H (Ext.refl F) ⟨c.frz, c.base, c.deck, c.tabs, c.env.set r⟩ ⟨by rw [List.length_set], fun j hj => List.getElem?_set_ne fun z => hj (by simp [z])⟩⟩
theorem pmgs_nil : PMGs T X [] [] [] := ⟨_, pgs_nil, fun dk dc F0 H0 F H σ st st' vs ds Q c r hm q => by
  cases r with
  | nil =>
    obtain ⟨_, rfl⟩ := pureM_some hm
    exact ⟨rfl, q σ F H (Ext.refl F) c (Same.refl _ _)⟩
  | cons a b => cases hm⟩
theorem pmgs_cons (h1 : PMG T X e k is) (h2 : PMGs T X es ks js) (hs : (assignEach (e :: es) X.env).map (·.2) = assign e X.env :: (assignEach es X.env).map (·.2) := by rfl) : PMGs T X (e :: es) (k :: ks) (is ++ js) := by
  obtain ⟨t, p, h⟩ := h1.ex
  obtain ⟨u, q, g⟩ := h2.ex
  refine ⟨_, pgs_cons p q hs, fun dk dc F0 H0 F H σ st st' vs ds Q c r hm qq => ?_⟩
  cases r with
  | nil => cases hm
  | cons a b =>
    obtain ⟨_, s2, hm1, hm2⟩ := bindM_some hm
    exact ⟨_, _, rfl, h dk dc F0 H0 F H σ st s2 _ _ _ c a hm1 fun σ' F' H' e1 c1 n1 => g dk dc F0 H0 F' H' σ' s2 st' _ _ Q c1 (b.ext e1) hm2 fun σ2 F2 H2 e2 c2 n2 => qq σ2 F2 H2 (e1.trans e2) c2 ⟨n2.1.trans n1.1, fun j hj => (n2.2 j fun z => hj (by simp [z])).trans (n1.2 j fun z => hj (by simp [z]))⟩⟩
theorem Frz.sqT {K : PySem.W.Frag} {F H : Hp} {p : Addr} {vs : List V} (z : Frz F H) (h : SqT K F p vs) : SqT K H p vs := Ext.sqT (fun a o e => (z a o e).1) h
theorem Frz.sqL {K : PySem.W.Frag} {F H : Hp} {p : Addr} {vs : List V} (z : Frz F H) (h : SqL K F p vs) : SqL K H p vs := Ext.sqL (fun a o e => (z a o e).1) h
theorem tgAll_len : ∀ {ks : List (D → M Unit)} {ds : List D} {st st' : Sta}, tgAll ks ds st = some ((), st') → ds.length = ks.length
  | [], [], _, _, _ => rfl
  | [], _ :: _, _, _, h => by cases h
  | _ :: _, [], _, _, h => by cases h
  | k :: ks, d :: ds, st, st', h => by
    obtain ⟨_, s2, _, h2⟩ := bindM_some h
    rw [List.length_cons, List.length_cons, tgAll_len h2]
theorem pg_or {X : Cx} {tg : Expr} {g1 g2 : TG} (h1 : PG X tg g1) (h2 : PG X tg g2) : PG X tg (fun v σ H Q => g1 v σ H Q ∨ g2 v σ H Q) := ⟨fun pins s σ H v u Q I r h => h.elim (h1.run pins s σ H v u Q I r) (h2.run pins s σ H v u Q I r)⟩
theorem pmg_tup {kk n : Nat} (hc : X.calm = true) (h : PMGs T X es ks is) (hn : (assignEach es X.env).length = n := by rfl) (hk : ks.length = n := by rfl) (hst : (assignEach es X.env).findIdx? (·.1) = none := by rfl) : PMG T X (.Tuple es kk pos) (tgT ks) is := by
  obtain ⟨u, q, g⟩ := h.ex
  refine ⟨_, pg_or (pg_tup (n := n) hc q hn hst) (pg_unl (n := n) hc q hn hst), fun dk dc F0 H0 F H σ st st' v d Q c r hm qq => ?_⟩
  cases r with
  | tup h1 _ r1 =>
    refine .inl ⟨_, _, rfl, c.frz.sqT h1, ?_, g dk dc F0 H0 F H σ st st' _ _ Q c r1 hm qq⟩
    rw [r1.length, tgAll_len hm]
    exact hk
  | lst h1 r1 =>
    refine .inr ⟨_, _, rfl, c.frz.sqL (.inl (.inl h1)), ?_, g dk dc F0 H0 F H σ st st' _ _ Q c r1 hm qq⟩
    rw [r1.length, tgAll_len hm]
    exact hk
  | _ => cases hm

/-! ### loops -/
theorem pms_for {body : List Stmt} {mb : M Fl} (hp : PassesOwn (model X.prog X.w) X.A X.env X.xe) (hc : X.calm = true) (hi : PMI T X tg e ml) (hg : PMG T X tg k is) (hb : PMSs T X body mb)
    (hs : ∀ x, foldedSetIterable e X.env x = pure x := by intro _; rfl) : PMS T X (.For tg e body [] pos) (forM ml k mb) := by
  obtain ⟨wi, pi, hi⟩ := hi.ex
  obtain ⟨g, pg, hg⟩ := hg.ex
  obtain ⟨tb, pb, hb⟩ := hb.ex
  refine ⟨_, ps_for hp hc pi pg pb hs, fun dk dc F0 H0 F H σ st st' fl De c hm a => ?_⟩
  obtain ⟨ds, s2, hm1, hm2⟩ := bindM_some hm
  refine hi dk dc F0 H0 F H σ st s2 ds _ c hm1 fun J F1 H1 e1 c1 w => ?_
  refine ⟨fun i m σ' H' => i ≤ ds.length ∧ m = ds.length - i ∧ ∃ F' s', Ext F1 F' ∧ Cfg X.K T dk dc F0 H0 F' H' σ' s' ∧ loopM k mb (ds.drop i) s' = some (fl, st'),
    ⟨_, Nat.zero_le _, rfl, F1, s2, Ext.refl _, c1, by simpa using hm2⟩, ?_⟩
  rintro i m σ' H' ⟨hi', rfl, F', s', e', c', hl⟩
  by_cases hlt : i < ds.length
  · refine .inr ⟨w.goes i F' H' e' c'.frz hlt, fun σ2 H2 => i + 1 ≤ ds.length ∧ ∃ F2 s2, Ext F1 F2 ∧ Cfg X.K T dk dc F0 H0 F2 H2 σ2 s2 ∧ loopM k mb (ds.drop (i + 1)) s2 = some (fl, st'), ?_, ?_⟩
    · rintro σ2 H2 ⟨h2, h3⟩
      exact ⟨_, by omega, h2, rfl, h3⟩
    · intro x H2 hy
      have hd : ds.drop i = ds[i] :: ds.drop (i + 1) := List.drop_eq_getElem_cons hlt
      obtain ⟨F2, g2, r2⟩ := w.yields i F' H' x H2 e' c'.frz hy ds[i] (List.getElem?_eq_getElem hlt)
      rw [hd] at hl
      obtain ⟨_, s3, hl1, hl2⟩ := bindM_some hl
      obtain ⟨f1, s4, hl3, hl4⟩ := bindM_some hl2
      have e2 := g2.ext c'.frz
      refine hg dk dc F0 H0 F2 H2 σ' s' s3 x ds[i] _ (c'.grow g2) r2 hl1 fun σ3 F3 H3 e3 c3 _ => ?_
      refine hb dk dc F0 H0 F3 H3 σ3 s3 s4 f1 _ c3 hl3 ?_
      have ee : Ext F1 F3 := (e'.trans e2).trans e3
      cases f1 with
      | nx => exact fun σ4 F4 H4 e4 c4 => ⟨hlt, F4, s4, ee.trans e4, c4, hl4⟩
      | ct => exact fun σ4 F4 H4 e4 c4 => ⟨hlt, F4, s4, ee.trans e4, c4, hl4⟩
      | bk =>
        obtain ⟨rfl, rfl⟩ := pureM_some hl4
        exact fun σ4 F4 H4 e4 c4 => a σ4 F4 H4 ((e1.trans ee).trans e4) c4
      | rt d =>
        obtain ⟨rfl, rfl⟩ := pureM_some hl4
        exact fun v F4 H4 e4 o4 r4 => a v F4 H4 ((e1.trans ee).trans e4) o4 r4
  · have e0 : i = ds.length := by omega
    subst e0
    refine .inl ⟨w.stops F' H' e' c'.frz, ?_⟩
    rw [List.drop_length] at hl
    obtain ⟨rfl, rfl⟩ := pureM_some hl
    exact a σ' F' H' (e1.trans e') c'
end
end GA

set_option Elab.async false
set_option linter.all false
set_option maxRecDepth 100000
set_option maxHeartbeats 2000000
/-! what a loop walks -/
namespace GA
open PySem PySem.Spec PyProof.Rows L2 GenW RZ

theorem pi_or {X : Cx} {tg e : Expr} {w1 w2 : TI} (h1 : PI X tg e w1) (h2 : PI X tg e w2) : PI X tg e (fun σ H R => w1 σ H R ∨ w2 σ H R) :=
  ⟨fun pins s σ H R I h => h.elim (h1.run pins s σ H R I) (h2.run pins s σ H R I)⟩
def asSeq : D → Option (List D) | .lst ds => some ds | .tup _ ds => some ds | _ => none
def seqI (m : M D) : M (List D) := bindM m fun d => liftM (asSeq d)
def rng (lo : Int) (n : Nat) : List D := (List.range n).map fun (k : Nat) => .int (lo + (k : Int))
def rng1D : List D → Option (List D)
  | [.int j] => if -(2 ^ 62) ≤ j ∧ j < 2 ^ 62 then some (rng 0 j.toNat) else none
  | _ => none
def rng2D : List D → Option (List D)
  | [.int i, .int j] => if (-(2 ^ 62) ≤ i ∧ i < 2 ^ 62) ∧ (-(2 ^ 62) ≤ j ∧ j < 2 ^ 62) then some (rng i (j - i).toNat) else none
  | _ => none
def enumL (ds : List D) : List D := ds.zipIdx.map fun p => .tup false [.int (p.2 : Nat), p.1]
def enumD : List D → Option (List D)
  | [d] => (asSeq d).map enumL
  | _ => none
def zipD : List D → Option (List D)
  | [.lst a, .lst b] => some (List.zipWith (fun x y => .tup false [x, y]) a b)
  | [.tup _ a, .tup _ b] => some (List.zipWith (fun x y => .tup false [x, y]) a b)
  | _ => none
theorem Reps.one_inv {K : PySem.W.Frag} {F : Hp} {vs : List V} {d : D} (h : Reps K F vs [d]) : ∃ v, vs = [v] ∧ Rep K F v d := by
  cases h with
  | cons a b => cases b; exact ⟨_, rfl, a⟩
theorem Reps.two_inv {K : PySem.W.Frag} {F : Hp} {vs : List V} {d e : D} (h : Reps K F vs [d, e]) : ∃ v w, vs = [v, w] ∧ Rep K F v d ∧ Rep K F w e := by
  cases h with
  | cons a b =>
    obtain ⟨w, rfl, hw⟩ := Reps.one_inv b
    exact ⟨_, _, rfl, a, hw⟩
theorem Rep.int_inv {K : PySem.W.Frag} {F : Hp} {v : V} {i : Int} (h : Rep K F v (.int i)) : v = .int i := by cases h; rfl
theorem Rep.bl_inv {K : PySem.W.Frag} {F : Hp} {v : V} {i : Bool} (h : Rep K F v (.bl i)) : v = .bl i := by cases h; rfl
theorem Rep.str_inv {K : PySem.W.Frag} {F : Hp} {v : V} {i : Str} (h : Rep K F v (.str i)) : v = .str i := by cases h; rfl
theorem Rep.non_inv {K : PySem.W.Frag} {F : Hp} {v : V} (h : Rep K F v .non) : v = .non := by cases h; rfl
theorem Rep.lst_at {K : PySem.W.Frag} {F : Hp} {v : V} {ds : List D} (h : Rep K F v (.lst ds)) : ∃ p vs, v = .ref p ∧ F p = some (.lst vs) ∧ Reps K F vs ds := by
  cases h with
  | lst a b => exact ⟨_, _, rfl, a, b⟩
theorem Rep.lst_inv {K : PySem.W.Frag} {F : Hp} {v : V} {ds : List D} (h : Rep K F v (.lst ds)) : ∃ p vs, v = .ref p ∧ SqL K F p vs ∧ Reps K F vs ds := by
  cases h with
  | lst a b => exact ⟨_, _, rfl, .inl (.inl a), b⟩
theorem Rep.tup_inv {K : PySem.W.Frag} {F : Hp} {v : V} {ds : List D} {bb : Bool} (h : Rep K F v (.tup bb ds)) : ∃ p vs, v = .ref p ∧ SqT K F p vs ∧ Reps K F vs ds := by
  cases h with
  | tup a n b => exact ⟨_, _, rfl, a, b⟩
theorem liftM_pair {K : Type} {o : Option K} {st : Sta} {a : K} (h : o = some a) : liftM o st = some (a, st) := by unfold liftM; rw [h]

theorem walk_list {K : PySem.W.Frag} {F1 : Hp} {p : Addr} {vs : List V} {ds : List D} (h : SqL K F1 p vs) (r : Reps K F1 vs ds) : WalkD K (Itl K p) ds F1 where
  goes := fun i F H e z hi => by
    have hl : i < vs.length := by rw [r.length]; exact hi
    exact ⟨vs, vs[i], z.sqL (e.sqL h), List.getElem?_eq_getElem hl⟩
  stops := fun F H e z => ⟨vs, z.sqL (e.sqL h), by rw [r.length]; exact Nat.le_refl _⟩
  yields := fun i F H x H' e z hy d hd => by
    obtain ⟨rfl, h2⟩ := hy
    obtain ⟨v, h3, h4⟩ := r.get hd
    have := h2 vs (z.sqL (e.sqL h))
    rw [h3] at this
    cases this
    exact ⟨F, Grow.refl z, h4.ext e⟩
theorem walk_tup {K : PySem.W.Frag} {F1 : Hp} {p : Addr} {vs : List V} {ds : List D} (h : SqT K F1 p vs) (r : Reps K F1 vs ds) : WalkD K (Itt K p) ds F1 where
  goes := fun i F H e z hi => by
    have hl : i < vs.length := by rw [r.length]; exact hi
    exact ⟨vs, vs[i], z.sqT (e.sqT h), List.getElem?_eq_getElem hl⟩
  stops := fun F H e z => ⟨vs, z.sqT (e.sqT h), by rw [r.length]; exact Nat.le_refl _⟩
  yields := fun i F H x H' e z hy d hd => by
    obtain ⟨rfl, h2⟩ := hy
    obtain ⟨v, h3, h4⟩ := r.get hd
    have := h2 vs (z.sqT (e.sqT h))
    rw [h3] at this
    cases this
    exact ⟨F, Grow.refl z, h4.ext e⟩
theorem walk_rng {K : PySem.W.Frag} {F1 : Hp} {lo : Int} {n : Nat} : WalkD K (Itr lo n) (rng lo n) F1 where
  goes := fun i F H e z hi => by
    show i < n
    simpa [rng] using hi
  stops := fun F H e z => by
    show n ≤ (rng lo n).length
    simp [rng]
  yields := fun i F H x H' e z hy d hd => by
    obtain ⟨rfl, rfl⟩ := hy
    refine ⟨F, Grow.refl z, ?_⟩
    have hi : i < n := by
      have := (List.getElem?_eq_some_iff.mp hd).1
      simpa [rng] using this
    have : (rng lo n)[i]? = some (.int (lo + i)) := by
      simp [rng, hi]
    rw [this] at hd
    cases hd
    exact .int _
theorem enumL_get {ds : List D} {i : Nat} {d : D} (h : (enumL ds)[i]? = some d) : ∃ e, ds[i]? = some e ∧ d = .tup false [.int (i : Nat), e] := by
  unfold enumL at h
  rw [List.getElem?_map, List.getElem?_zipIdx] at h
  cases q : ds[i]? with
  | none => rw [q] at h; cases h
  | some e =>
    rw [q] at h
    simp at h
    exact ⟨e, rfl, h.symm⟩
theorem enumL_len {ds : List D} : (enumL ds).length = ds.length := by simp [enumL]
theorem pair_in {K : PySem.W.Frag} {F H : Hp} {q : Addr} {x y : V} {a b : D} (z : Frz F H) (hq : H q = none) (h1 : Rep K F x a) (h2 : Rep K F y b) : ∃ F', Grow F H F' (upd H q (.tup [x, y])) ∧ Rep K F' (.ref q) (.tup false [a, b]) := by
  have g := Grow.new (o := .tup [x, y]) z hq fun ps w => by cases w
  exact ⟨_, g, .tup (.inl (.inl upd_same)) (fun z => by cases z) (.cons (h1.ext (g.ext z)) (.cons (h2.ext (g.ext z)) .nil))⟩
theorem walk_enumL {K : PySem.W.Frag} {F1 : Hp} {p : Addr} {vs : List V} {ds : List D} (h : SqL K F1 p vs) (r : Reps K F1 vs ds) : WalkD K (Ite K p) (enumL ds) F1 where
  goes := fun i F H e z hi => by
    have hl : i < vs.length := by rw [r.length]; rw [enumL_len] at hi; exact hi
    exact ⟨vs, vs[i], z.sqL (e.sqL h), List.getElem?_eq_getElem hl⟩
  stops := fun F H e z => ⟨vs, z.sqL (e.sqL h), by rw [enumL_len, r.length]; exact Nat.le_refl _⟩
  yields := fun i F H x H' e z hy d hd => by
    obtain ⟨q, y, rfl, hq, rfl, h2⟩ := hy
    obtain ⟨d1, h5, rfl⟩ := enumL_get hd
    obtain ⟨v, h3, h4⟩ := r.get h5
    have := h2 vs (z.sqL (e.sqL h))
    rw [h3] at this
    cases this
    exact pair_in z hq (.int _) (h4.ext e)
theorem walk_enumT {K : PySem.W.Frag} {F1 : Hp} {p : Addr} {vs : List V} {ds : List D} (h : SqT K F1 p vs) (r : Reps K F1 vs ds) : WalkD K (ItET K p) (enumL ds) F1 where
  goes := fun i F H e z hi => by
    have hl : i < vs.length := by rw [r.length]; rw [enumL_len] at hi; exact hi
    exact ⟨vs, vs[i], z.sqT (e.sqT h), List.getElem?_eq_getElem hl⟩
  stops := fun F H e z => ⟨vs, z.sqT (e.sqT h), by rw [enumL_len, r.length]⟩
  yields := fun i F H x H' e z hy d hd => by
    obtain ⟨q, y, rfl, hq, rfl, h2⟩ := hy
    obtain ⟨d1, h5, rfl⟩ := enumL_get hd
    obtain ⟨v, h3, h4⟩ := r.get h5
    have := h2 vs (z.sqT (e.sqT h))
    rw [h3] at this
    cases this
    exact pair_in z hq (.int _) (h4.ext e)
theorem zipL_get {a b : List D} {i : Nat} {d : D} (h : (List.zipWith (fun x y => D.tup false [x, y]) a b)[i]? = some d) : ∃ x y, a[i]? = some x ∧ b[i]? = some y ∧ d = .tup false [x, y] := by
  rw [List.getElem?_zipWith] at h
  cases q : a[i]? with
  | none => rw [q] at h; cases h
  | some x =>
    cases q2 : b[i]? with
    | none => rw [q, q2] at h; cases h
    | some y =>
      rw [q, q2] at h
      cases h
      exact ⟨x, y, rfl, rfl, rfl⟩
theorem walk_zipL {K : PySem.W.Frag} {F1 : Hp} {p p2 : Addr} {vs ws : List V} {ds es : List D} (h : SqL K F1 p vs) (r : Reps K F1 vs ds) (h' : SqL K F1 p2 ws) (r' : Reps K F1 ws es) : WalkD K (Itz K p p2) (List.zipWith (fun x y => D.tup false [x, y]) ds es) F1 where
  goes := fun i F H e z hi => by
    rw [List.length_zipWith] at hi
    have hl : i < vs.length := by rw [r.length]; omega
    have hl2 : i < ws.length := by rw [r'.length]; omega
    exact ⟨vs, ws, vs[i], ws[i], z.sqL (e.sqL h), z.sqL (e.sqL h'), List.getElem?_eq_getElem hl, List.getElem?_eq_getElem hl2⟩
  stops := fun F H e z => ⟨vs, ws, z.sqL (e.sqL h), z.sqL (e.sqL h'), by rw [List.length_zipWith, r.length, r'.length]; omega⟩
  yields := fun i F H x H' e z hy d hd => by
    obtain ⟨q, y, y2, rfl, hq, rfl, h2, h3⟩ := hy
    obtain ⟨d1, d2, h5, h6, rfl⟩ := zipL_get hd
    obtain ⟨v, k3, k4⟩ := r.get h5
    obtain ⟨w, k5, k6⟩ := r'.get h6
    have t1 := h2 vs (z.sqL (e.sqL h))
    rw [k3] at t1
    cases t1
    have t2 := h3 ws (z.sqL (e.sqL h'))
    rw [k5] at t2
    cases t2
    exact pair_in z hq (k4.ext e) (k6.ext e)
theorem walk_zipT {K : PySem.W.Frag} {F1 : Hp} {p p2 : Addr} {vs ws : List V} {ds es : List D} (h : SqT K F1 p vs) (r : Reps K F1 vs ds) (h' : SqT K F1 p2 ws) (r' : Reps K F1 ws es) : WalkD K (ItzT K p p2) (List.zipWith (fun x y => D.tup false [x, y]) ds es) F1 where
  goes := fun i F H e z hi => by
    rw [List.length_zipWith] at hi
    have hl : i < vs.length := by rw [r.length]; omega
    have hl2 : i < ws.length := by rw [r'.length]; omega
    exact ⟨vs, ws, vs[i], ws[i], z.sqT (e.sqT h), z.sqT (e.sqT h'), List.getElem?_eq_getElem hl, List.getElem?_eq_getElem hl2⟩
  stops := fun F H e z => ⟨vs, ws, z.sqT (e.sqT h), z.sqT (e.sqT h'), by rw [List.length_zipWith, r.length, r'.length]; omega⟩
  yields := fun i F H x H' e z hy d hd => by
    obtain ⟨q, y, y2, rfl, hq, rfl, h2, h3⟩ := hy
    obtain ⟨d1, d2, h5, h6, rfl⟩ := zipL_get hd
    obtain ⟨v, k3, k4⟩ := r.get h5
    obtain ⟨w, k5, k6⟩ := r'.get h6
    have t1 := h2 vs (z.sqT (e.sqT h))
    rw [k3] at t1
    cases t1
    have t2 := h3 ws (z.sqT (e.sqT h'))
    rw [k5] at t2
    cases t2
    exact pair_in z hq (k4.ext e) (k6.ext e)

section
variable {X : Cx} {T : List Addr} {e e2 tg : Expr} {ma : M D} {ml : M (List D)} {p pos tpos : Pos} {elts : List Expr} {kk : Nat}
theorem pmi_seq (h : PM T X e ma) : PMI T X tg e (seqI ma) := by
  obtain ⟨t, pt, h⟩ := h.ex
  refine ⟨_, pi_or (pi_list pt) (pi_tup pt), fun dk dc F0 H0 F H σ st st' ds R c hm a => ?_⟩
  obtain ⟨d, s2, hm1, hm2⟩ := bindM_some hm
  obtain ⟨hd, rfl⟩ := liftM_some hm2
  cases d with
  | lst es =>
    cases hd
    refine .inl (h dk dc F0 H0 F H σ st _ _ _ c hm1 fun v F1 H1 e1 c1 r1 => ?_)
    obtain ⟨q, vs, rfl, hq, r2⟩ := r1.lst_inv
    exact ⟨q, rfl, ⟨vs, c1.frz.sqL hq⟩, a _ _ _ e1 c1 (walk_list hq r2)⟩
  | tup bb es =>
    cases hd
    refine .inr (h dk dc F0 H0 F H σ st _ _ _ c hm1 fun v F1 H1 e1 c1 r1 => ?_)
    obtain ⟨q, vs, rfl, hq, r2⟩ := r1.tup_inv
    exact ⟨q, rfl, ⟨vs, c1.frz.sqT hq⟩, a _ _ _ e1 c1 (walk_tup hq r2)⟩
  | _ => cases hd
theorem pmi_range1 (h : PMA T X [e] ml) (hg : Gl X "range") (hm : X.mg "range" = none) (hs : starEach [e] X.env = [(false, eval e X.env)] := by rfl) : PMI T X tg (.Call (.Name "range" p) [e] [] pos) (bindM ml fun l => liftM (rng1D l)) := by
  obtain ⟨t, pt, h⟩ := h.ex
  refine ⟨_, pi_range1 hg hm pt hs, fun dk dc F0 H0 F H σ st st' ds R c hm a => ?_⟩
  obtain ⟨l, s2, hm1, hm2⟩ := bindM_some hm
  obtain ⟨hd, rfl⟩ := liftM_some hm2
  refine h dk dc F0 H0 F H σ st _ _ _ c hm1 fun vs F1 H1 e1 c1 r1 => ?_
  unfold rng1D at hd
  split at hd
  · rename_i j
    obtain ⟨v, rfl, r2⟩ := r1.one_inv
    obtain rfl := r2.int_inv
    split at hd
    · rename_i hb
      cases hd
      exact ⟨j, rfl, hb.1, hb.2, a _ _ _ e1 c1 walk_rng⟩
    · cases hd
  · cases hd
theorem pmi_range2 (h : PMA T X [e, e2] ml) (hg : Gl X "range") (hm : X.mg "range" = none) (hs : starEach [e, e2] X.env = [(false, eval e X.env), (false, eval e2 X.env)] := by rfl) (hs2 : starEach [e2] X.env = [(false, eval e2 X.env)] := by rfl) :
    PMI T X tg (.Call (.Name "range" p) [e, e2] [] pos) (bindM ml fun l => liftM (rng2D l)) := by
  obtain ⟨t, pt, h⟩ := h.ex
  refine ⟨_, pi_range2 hg hm pt hs hs2, fun dk dc F0 H0 F H σ st st' ds R c hm a => ?_⟩
  obtain ⟨l, s2, hm1, hm2⟩ := bindM_some hm
  obtain ⟨hd, rfl⟩ := liftM_some hm2
  refine h dk dc F0 H0 F H σ st _ _ _ c hm1 fun vs F1 H1 e1 c1 r1 => ?_
  unfold rng2D at hd
  split at hd
  · rename_i i j
    obtain ⟨v, w, rfl, r2, r3⟩ := r1.two_inv
    obtain rfl := r2.int_inv
    obtain rfl := r3.int_inv
    split at hd
    · rename_i hb
      cases hd
      exact ⟨i, j, rfl, ⟨hb.1.1, hb.1.2, hb.2.1, hb.2.2⟩, a _ _ _ e1 c1 walk_rng⟩
    · cases hd
  · cases hd
theorem pmi_enum (h : PMA T X [e] ml) (hg : Gl X "enumerate") (hm : X.mg "enumerate" = none) (hs : starEach [e] X.env = [(false, eval e X.env)] := by rfl) : PMI T X (.Tuple elts kk tpos) (.Call (.Name "enumerate" p) [e] [] pos) (bindM ml fun l => liftM (enumD l)) := by
  obtain ⟨t, pt, h⟩ := h.ex
  refine ⟨_, pi_or (pi_enum hg hm pt hs) (pi_enumT hg hm pt hs), fun dk dc F0 H0 F H σ st st' ds R c hm a => ?_⟩
  obtain ⟨l, s2, hm1, hm2⟩ := bindM_some hm
  obtain ⟨hd, rfl⟩ := liftM_some hm2
  unfold enumD at hd
  split at hd
  · rename_i d
    cases d with
    | lst es =>
      cases hd
      refine .inl (h dk dc F0 H0 F H σ st _ _ _ c hm1 fun vs F1 H1 e1 c1 r1 => ?_)
      obtain ⟨v, rfl, r2⟩ := r1.one_inv
      obtain ⟨q, vs, rfl, hq, r2⟩ := r2.lst_inv
      exact ⟨q, vs, rfl, c1.frz.sqL hq, a _ _ _ e1 c1 (walk_enumL hq r2)⟩
    | tup bb es =>
      cases hd
      refine .inr (h dk dc F0 H0 F H σ st _ _ _ c hm1 fun vs F1 H1 e1 c1 r1 => ?_)
      obtain ⟨v, rfl, r2⟩ := r1.one_inv
      obtain ⟨q, vs, rfl, hq, r2⟩ := r2.tup_inv
      exact ⟨q, vs, rfl, c1.frz.sqT hq, a _ _ _ e1 c1 (walk_enumT hq r2)⟩
    | _ => cases hd
  · cases hd
theorem pmi_zip (h : PMA T X [e, e2] ml) (hg : Gl X "zip") (hm : X.mg "zip" = none) (hs : starEach [e, e2] X.env = (false, eval e X.env) :: starEach [e2] X.env := by rfl) (hs2 : ((backTo pos (starEach [e2] X.env)).any (·.1)) = false := by rfl) :
    PMI T X (.Tuple elts kk tpos) (.Call (.Name "zip" p) [e, e2] [] pos) (bindM ml fun l => liftM (zipD l)) := by
  obtain ⟨t, pt, h⟩ := h.ex
  refine ⟨_, pi_zipA hg hm pt hs hs2, fun dk dc F0 H0 F H σ st st' ds R c hm a => ?_⟩
  obtain ⟨l, s2, hm1, hm2⟩ := bindM_some hm
  obtain ⟨hd, rfl⟩ := liftM_some hm2
  refine h dk dc F0 H0 F H σ st _ _ _ c hm1 fun vs F1 H1 e1 c1 r1 => ?_
  unfold zipD at hd
  split at hd
  · cases hd
    obtain ⟨v, w, rfl, r2, r3⟩ := r1.two_inv
    obtain ⟨q, vs, rfl, hq, r2⟩ := r2.lst_inv
    obtain ⟨q2, vs2, rfl, hq2, r3⟩ := r3.lst_inv
    exact ⟨q, q2, vs, vs2, rfl, .inl ⟨c1.frz.sqL hq, c1.frz.sqL hq2, a _ _ _ e1 c1 (walk_zipL hq r2 hq2 r3)⟩⟩
  · cases hd
    obtain ⟨v, w, rfl, r2, r3⟩ := r1.two_inv
    obtain ⟨q, vs, rfl, hq, r2⟩ := r2.tup_inv
    obtain ⟨q2, vs2, rfl, hq2, r3⟩ := r3.tup_inv
    exact ⟨q, q2, vs, vs2, rfl, .inr ⟨c1.frz.sqT hq, c1.frz.sqT hq2, a _ _ _ e1 c1 (walk_zipT hq r2 hq2 r3)⟩⟩
  · cases hd
end
end GA

set_option Elab.async false
set_option linter.all false
set_option maxRecDepth 100000
set_option maxHeartbeats 2000000
/-! list comprehensions -/
namespace GA
open PySem PySem.Spec PyProof.Rows L2 GenW

/-! ### the readings that a program over data gives -/
def canE (K : PySem.W.Frag) (T : List Addr) (m : M D) : TE := fun σ H Q => ∃ (dk dc : Addr) (F0 H0 F : Hp) (st st' : Sta) (d : D), Cfg K T dk dc F0 H0 F H σ st ∧ m st = some (d, st') ∧
  ∀ v F' H', Ext F F' → Cfg K T dk dc F0 H0 F' H' σ st' → Rep K F' v d → Q v H'
def canT (K : PySem.W.Frag) (T : List Addr) (m : M Bool) : TT := fun σ H Q => ∃ (dk dc : Addr) (F0 H0 F : Hp) (st st' : Sta) (b : Bool), Cfg K T dk dc F0 H0 F H σ st ∧ m st = some (b, st') ∧
  ∀ F' H', Ext F F' → Cfg K T dk dc F0 H0 F' H' σ st' → Q b H'
def canG (K : PySem.W.Frag) (T : List Addr) (k : D → M Unit) (is : List Nat) : TG := fun v σ H Q => ∃ (dk dc : Addr) (F0 H0 F : Hp) (st st' : Sta) (d : D), Cfg K T dk dc F0 H0 F H σ st ∧ Rep K F v d ∧ k d st = some ((), st') ∧
  ∀ σ' F' H', Ext F F' → Cfg K T dk dc F0 H0 F' H' σ' st' → Same is σ σ' → Q σ' H'
theorem PM.can {T : List Addr} {X : Cx} {e : Expr} {m : M D} (h : PM T X e m) : PE X e (canE X.K T m) := by
  obtain ⟨t, p, h⟩ := h.ex
  refine ⟨fun pins s σ H Q I z => ?_⟩
  obtain ⟨dk, dc, F0, H0, F, st, st', d, c, hm, q⟩ := z
  exact p.run pins s σ H Q I (h dk dc F0 H0 F H σ st st' d Q c hm q)
theorem PMG.can {T : List Addr} {X : Cx} {tg : Expr} {k : D → M Unit} {is : List Nat} (h : PMG T X tg k is) : PG X tg (canG X.K T k is) := by
  obtain ⟨t, p, h⟩ := h.ex
  refine ⟨fun pins s σ H v u Q I r z => ?_⟩
  obtain ⟨dk, dc, F0, H0, F, st, st', d, c, rr, hm, q⟩ := z
  exact p.run pins s σ H v u Q I r (h dk dc F0 H0 F H σ st st' v d Q c rr hm q)
/-- the tests of a comprehension -/
structure PMTs (T : List Addr) (X : Cx) (ifs : List Expr) (m : M Bool) : Prop where
  ex : ∃ t : TT, PTs X ifs t ∧ ∀ (dk dc : Addr) (F0 H0 F H : Hp) (σ : L2.St) (st st' : Sta) (b : Bool) (Q : Bool → Hp → Prop), Cfg X.K T dk dc F0 H0 F H σ st → m st = some (b, st') →
    (∀ F' H', Ext F F' → Cfg X.K T dk dc F0 H0 F' H' σ st' → Q b H') → t σ H Q
theorem pmts_nil {T : List Addr} {X : Cx} : PMTs T X [] (pureM true) := ⟨_, pts_nil, fun dk dc F0 H0 F H σ st st' b Q c hm q => by
  obtain ⟨rfl, rfl⟩ := pureM_some hm
  exact q F H (Ext.refl F) c⟩
theorem pmts_one {T : List Addr} {X : Cx} {e : Expr} {m : M Bool} (h : PMT T X e m) : PMTs T X [e] m := by
  obtain ⟨t, p, h⟩ := h.ex
  exact ⟨_, pts_one p, h⟩
theorem PMTs.can {T : List Addr} {X : Cx} {e : List Expr} {m : M Bool} (h : PMTs T X e m) : PTs X e (canT X.K T m) := by
  obtain ⟨t, p, h⟩ := h.ex
  refine ⟨fun pins s σ H Q I z => ?_⟩
  obtain ⟨dk, dc, F0, H0, F, st, st', d, c, hm, q⟩ := z
  exact p.run pins s σ H Q I (h dk dc F0 H0 F H σ st st' d Q c hm q)

/-! ### the slots of the block -/
def wipeR (r : List Slot) : List Nat → List Slot
  | [] => r
  | v :: vs => (wipeR r vs).set v .un
def slotKeep : Option Slot → Slot
  | some (.dat d) => .dat d
  | _ => .un
theorem slotKeep_or (x : Option Slot) : slotKeep x = .un ∨ ∃ d, slotKeep x = .dat d := by
  unfold slotKeep
  split
  · exact .inr ⟨_, rfl⟩
  · exact .inl rfl
def backR (r r0 : List Slot) : List Nat → List Slot
  | [] => r
  | v :: vs => (backR r r0 vs).set v (slotKeep r0[v]?)
theorem backR_len (r r0 : List Slot) : ∀ vs, (backR r r0 vs).length = r.length
  | [] => rfl
  | v :: vs => by unfold backR; rw [List.length_set, backR_len r r0 vs]
theorem backR_at (r r0 : List Slot) : ∀ (vs : List Nat) (j : Nat), (backR r r0 vs)[j]? = if j ∈ vs ∧ j < r.length then some (slotKeep r0[j]?) else r[j]?
  | [], j => by simp [backR]
  | v :: vs, j => by
    unfold backR
    by_cases h : v = j
    · subst h
      by_cases hl : v < r.length
      · rw [List.getElem?_set_self (by rw [backR_len]; exact hl), if_pos ⟨by simp, hl⟩]
      · rw [List.getElem?_eq_none (by rw [List.length_set, backR_len]; omega), if_neg (fun z => hl z.2), List.getElem?_eq_none (by omega)]
    · rw [List.getElem?_set_ne h, backR_at r r0 vs j]
      have hjv : j ≠ v := fun z => h z.symm
      simp [hjv]
theorem wipe_at (σ : L2.St) : ∀ (vs : List Nat) (j : Nat), (wipe σ vs)[j]? = if j ∈ vs ∧ j < σ.length then some none else σ[j]?
  | [], j => by simp [wipe]
  | v :: vs, j => by
    unfold wipe
    by_cases h : v = j
    · subst h
      by_cases hl : v < σ.length
      · rw [List.getElem?_set_self (by rw [wipe_length]; exact hl), if_pos ⟨by simp, hl⟩]
      · rw [List.getElem?_eq_none (by rw [List.length_set, wipe_length]; omega), if_neg (fun z => hl z.2), List.getElem?_eq_none (by omega)]
    · rw [List.getElem?_set_ne h, wipe_at σ vs j]
      have hjv : j ≠ v := fun z => h z.symm
      simp [hjv]
theorem wipe_same {σ σ' : L2.St} {is vs : List Nat} (h : Same is (wipe σ vs) σ') (hi : ∀ i ∈ is, i ∈ vs) : wipe σ' vs = wipe σ vs := by
  have hl := h.1
  rw [wipe_length] at hl
  apply List.ext_getElem?
  intro j
  rw [wipe_at, wipe_at, hl]
  by_cases hj : j ∈ vs
  · by_cases hn : j < σ.length
    · rw [if_pos ⟨hj, hn⟩, if_pos ⟨hj, hn⟩]
    · rw [if_neg (fun z => hn z.2), if_neg (fun z => hn z.2), List.getElem?_eq_none (by omega), List.getElem?_eq_none (by omega)]
  · rw [if_neg (fun z => hj z.1), if_neg (fun z => hj z.1), h.2 j (fun z => hj (hi j z)), wipe_at, if_neg (fun z => hj z.1)]
section
variable {K : PySem.W.Frag} {T : List Addr} {dk dc p : Addr} {F0 H0 F H F' H' : Hp} {σ : L2.St} {st : Sta} {o : HO}
theorem EnvOk.wipe {r : List Slot} (e : EnvOk K dk dc H0 F H σ r) : ∀ vs, EnvOk K dk dc H0 F H (L2.wipe σ vs) (wipeR r vs)
  | [] => e
  | v :: vs => (EnvOk.wipe e vs).drop
theorem Cfg.wipe (c : Cfg K T dk dc F0 H0 F H σ st) (vs : List Nat) : Cfg K T dk dc F0 H0 F H (L2.wipe σ vs) { st with r := wipeR st.r vs } :=
  ⟨c.frz, c.base, c.deck, c.tabs, c.env.wipe vs⟩
theorem EnvOk.back {dk' dc' : Addr} {G : Hp} {H0' H1 : Hp} {r r0 : List Slot} {vs : List Nat} (e : EnvOk K dk dc H0 F H (L2.wipe σ vs) r) (e0 : EnvOk K dk' dc' H0' G H1 σ r0) (x : Ext G F) : EnvOk K dk dc H0 F H σ (backR r r0 vs) := by
  have hl : σ.length = r.length := by rw [← e.len, wipe_length]
  have own : ∀ (i : Nat) y, (backR r r0 vs)[i]? = some y → (∀ d, y ≠ .dat d) → y ≠ .un → r[i]? = some y := fun i y hy n1 n2 => by
    rw [backR_at] at hy
    split at hy
    · cases hy
      rcases slotKeep_or r0[i]? with z | ⟨d, z⟩
      · exact absurd z n2
      · exact absurd z (n1 d)
    · exact hy
  have at_ : ∀ (i : Nat) y, r[i]? = some y → (∀ d, y ≠ .dat d) → y ≠ .un → (L2.wipe σ vs)[i]? = σ[i]? := fun i y hy n1 n2 => by
    have : ∃ v : V, (L2.wipe σ vs)[i]? = some (some v) := by
      cases y with
      | un => exact absurd rfl n2
      | dat d => exact absurd rfl (n1 d)
      | own xs => obtain ⟨a, _, h, _⟩ := e.own i xs hy; exact ⟨_, h⟩
      | ownd xs => obtain ⟨a, _, h, _⟩ := e.ownd i xs hy; exact ⟨_, h⟩
    obtain ⟨v, hv⟩ := this
    rw [hv, (wipe_some hv).1]
  refine ⟨by rw [backR_len]; exact hl, fun i d hd => ?_, fun i xs hx => ?_, fun i xs hx => ?_, fun i j a hij h1 h2 h3 => ?_⟩
  · rw [backR_at] at hd
    split at hd
    · rename_i hi
      have : slotKeep r0[i]? = .dat d := Option.some.inj hd
      unfold slotKeep at this
      split at this
      · rename_i d' hd'
        cases this
        obtain ⟨v, h1, h2⟩ := e0.dat i _ hd'
        exact ⟨v, h1, h2.ext x⟩
      · cases this
    · obtain ⟨v, h1, h2⟩ := e.dat i d hd
      exact ⟨v, (wipe_some h1).1, h2⟩
  · have h := own i _ hx (fun d z => by cases z) (fun z => by cases z)
    obtain ⟨a, ws, h1, h2⟩ := e.own i xs h
    exact ⟨a, ws, (wipe_some h1).1, h2⟩
  · have h := own i _ hx (fun d z => by cases z) (fun z => by cases z)
    obtain ⟨a, ws, h1, h2⟩ := e.ownd i xs h
    exact ⟨a, ws, (wipe_some h1).1, h2⟩
  · obtain ⟨y, g1, g2, g3⟩ := h1
    obtain ⟨y', k1, k2, k3⟩ := h2
    have g1 := own i y g1 g2 g3
    have k1 := own j y' k1 k2 k3
    rw [← at_ i y g1 g2 g3] at h3
    rw [← at_ j y' k1 k2 k3]
    exact e.apart i j a hij ⟨y, g1, g2, g3⟩ ⟨y', k1, k2, k3⟩ h3

/-! ### the protected object laid aside again -/
def wo (H : Hp) (p : Addr) : Hp := fun b => if b = p then none else H b
theorem wo_ne {H : Hp} {p b : Addr} (h : b ≠ p) : wo H p b = H b := if_neg h
theorem wo_same {H : Hp} {p : Addr} : wo H p p = none := if_pos rfl
theorem wo_upd {H : Hp} {p : Addr} {o : HO} (h : H p = some o) : upd (wo H p) p o = H := by
  funext b
  by_cases q : b = p
  · subst q; rw [upd_same, h]
  · rw [upd_ne q, wo_ne q]
theorem wo_upd2 {H : Hp} {p : Addr} {o : HO} : upd (wo H p) p o = upd H p o := by
  funext b
  by_cases q : b = p
  · subst q; rw [upd_same, upd_same]
  · rw [upd_ne q, upd_ne q, wo_ne q]
theorem upd_upd {H : Hp} {p : Addr} {o o' : HO} : upd (upd H p o) p o' = upd H p o' := by
  funext b
  by_cases q : b = p
  · subst q; rw [upd_same, upd_same]
  · rw [upd_ne q, upd_ne q, upd_ne q]
theorem Cfg.letOff (c : Cfg K T dk dc (hole F0 p) (upd H0 p o) F H σ st) (h : H0 p = none) (n : ∀ ps, o ≠ .tbl ps) (n1 : p ≠ dk) (n2 : p ≠ dc) : Cfg K T dk dc F0 H0 F (wo H p) σ st ∧ upd (wo H p) p o = H := by
  obtain ⟨c1, m⟩ := c.letIt h n n1 n2
  have na : ∀ {a : Addr} {o' : HO}, Mine dk dc (upd H0 p o) F H a o' → a ≠ p := fun {a o'} mm z => by
    have := mm.new
    rw [z, upd_same] at this; cases this
  refine ⟨⟨fun b u e => ?_, ⟨fun b u e m1 m2 m3 => ?_, fun b e => ?_⟩, ?_, fun P hP => ?_, ⟨c.env.len, c.env.dat, fun i xs hx => ?_, fun i xs hx => ?_, c.env.apart⟩⟩, wo_upd m.at_⟩
  · have hb : b ≠ p := fun z => by rw [z, m.fr] at e; cases e
    rw [wo_ne hb]; exact c1.frz b u e
  · have hb : b ≠ p := fun z => by rw [z, h] at e; cases e
    rw [wo_ne hb]; exact c1.base.keep b u e m1 m2 m3
  · by_cases hb : b = p
    · rw [hb]; exact h
    · rw [wo_ne hb] at e; exact c1.base.there b e
  · obtain ⟨d1, d2, d3, d4⟩ := c1.deck
    exact ⟨d1, d2, by rw [wo_ne (Ne.symm n1)]; exact d3, by rw [wo_ne (Ne.symm n2)]; exact d4⟩
  · obtain ⟨ps, hh, ht⟩ := c1.tabs P hP
    have hb : P ≠ p := fun z => by
      rw [z, m.at_] at hh
      exact n ps (Option.some.inj hh)
    exact ⟨ps, by rw [wo_ne hb]; exact hh, ht⟩
  · obtain ⟨a, vs, h1, h2, h3⟩ := c1.env.own i xs hx
    obtain ⟨a', vs', h1', h2', _⟩ := c.env.own i xs hx
    have ea : a' = a := by rw [h1] at h1'; cases h1'; rfl
    have hb : a ≠ p := ea ▸ na h2'
    exact ⟨a, vs, h1, ⟨h2.fr, by rw [wo_ne hb]; exact h2.at_, h2.new, h2.nk, h2.nc⟩, h3⟩
  · obtain ⟨a, vs, h1, h2, h3⟩ := c1.env.ownd i xs hx
    obtain ⟨a', vs', h1', h2', _⟩ := c.env.ownd i xs hx
    have ea : a' = a := by rw [h1] at h1'; cases h1'; rfl
    have hb : a ≠ p := ea ▸ na h2'
    exact ⟨a, vs, h1, ⟨h2.fr, by rw [wo_ne hb]; exact h2.at_, h2.new, h2.nk, h2.nc⟩, h3⟩
end

/-! ### the loops -/
def wipeM {α : Type} (vs : List Nat) (m : M α) : M α := bindM m fun o => fun st => some (o, { st with r := wipeR st.r vs })
def catL (tm : D → M (List D)) : List D → M (List D)
  | [] => pureM []
  | d :: r => bindM (tm d) fun o => bindM (catL tm r) fun ys => pureM (o ++ ys)
def oneT (k : D → M Unit) (tt : M Bool) (te : M D) (vs : List Nat) (d : D) : M (List D) := wipeM vs (bindM (k d) fun _ => bindM tt fun b => if b then bindM te fun y => pureM [y] else pureM [])
def twoT (k : D → M Unit) (tt : M Bool) (it1 : M (List D)) (k1 : D → M Unit) (tt1 : M Bool) (te : M D) (vs vs1 : List Nat) (d : D) : M (List D) :=
  wipeM vs (bindM (k d) fun _ => bindM tt fun b => if b then bindM it1 fun ds => fun st => catL (oneT k1 tt1 te vs1) ds { st with r := wipeR st.r vs1 } else pureM [])
def inBlk (vs : List Nat) (m : M (List D)) : M (List D) := fun st => match m { st with r := wipeR st.r vs } with
  | some (ys, st') => if ys.length ≤ sizeLine then some (ys, { st' with r := backR st'.r st.r vs }) else none
  | none => none
def compM (it : M (List D)) (k : D → M Unit) (tt : M Bool) (te : M D) (vs : List Nat) : M (List D) := bindM it fun ds => inBlk vs (catL (oneT k tt te vs) ds)
def compM2 (it : M (List D)) (k : D → M Unit) (tt : M Bool) (it1 : M (List D)) (k1 : D → M Unit) (tt1 : M Bool) (te : M D) (vs vs1 : List Nat) : M (List D) := bindM it fun ds => inBlk vs (catL (twoT k tt it1 k1 tt1 te vs vs1) ds)
theorem inBlk_some {vs : List Nat} {m : M (List D)} {st st' : Sta} {ys : List D} (h : inBlk vs m st = some (ys, st')) : ∃ s3, m { st with r := wipeR st.r vs } = some (ys, s3) ∧ ys.length ≤ sizeLine ∧ st' = { s3 with r := backR s3.r st.r vs } := by
  unfold inBlk at h
  split at h
  · rename_i zs s3 e
    split at h
    · rename_i hl
      cases h
      exact ⟨s3, e, hl, rfl⟩
    · cases h
  · cases h
theorem wipeM_some {α : Type} {vs : List Nat} {m : M α} {st st' : Sta} {a : α} (h : wipeM vs m st = some (a, st')) : ∃ s3, m st = some (a, s3) ∧ st' = { s3 with r := wipeR s3.r vs } := by
  obtain ⟨o, s3, h1, h2⟩ := bindM_some h
  cases h2
  exact ⟨s3, h1, rfl⟩
def canI (K : PySem.W.Frag) (T : List Addr) (m : M (List D)) : TI := fun σ H R => ∃ (dk dc : Addr) (F0 H0 F : Hp) (st st' : Sta) (ds : List D), Cfg K T dk dc F0 H0 F H σ st ∧ m st = some (ds, st') ∧
  ∀ J F' H', Ext F F' → Cfg K T dk dc F0 H0 F' H' σ st' → WalkD K J ds F' → R J H'
theorem PMI.can {T : List Addr} {X : Cx} {tg e : Expr} {m : M (List D)} (h : PMI T X tg e m) : PI X tg e (canI X.K T m) := by
  obtain ⟨t, p, h⟩ := h.ex
  refine ⟨fun pins s σ H R I z => ?_⟩
  obtain ⟨dk, dc, F0, H0, F, st, st', d, c, hm, q⟩ := z
  exact p.run pins s σ H R I (h dk dc F0 H0 F H σ st st' d R c hm q)

section
variable {K : PySem.W.Frag} {T : List Addr} {dk dc p : Addr} {F0 H0 F H F1 H1 : Hp} {σ : L2.St} {st st' s2 s3 : Sta} {ml : M (List D)} {k : D → M Unit} {is vs : List Nat} {mt : M Bool} {me : M D} {ds ys acc0 : List D} {ws0 : List V} {Q : VK} {wi : TI} {J : It}
/-- what follows a turn: the list has grown by oys -/
def NextT (K : PySem.W.Frag) (T : List Addr) (dk dc p : Addr) (F0 H0 F : Hp) (σ : L2.St) (st : Sta) (acc : List D) (Nx : Hp → Prop) : Prop :=
  ∀ F3 H3 ws3, Ext F F3 → H3 p = none → Cfg K T dk dc F0 H0 F3 H3 σ st → Reps K F3 ws3 acc → Nx (upd H3 p (.lst ws3))
theorem loop_gen {tm : D → M (List D)} {Body : V → Hp → (Hp → Prop) → Prop} {Qend : Hp → Prop} (w : WalkD K J ds F1) (c1 : Cfg K T dk dc F0 H0 F1 H1 σ s2) (hp : H1 p = none) (r0 : Reps K F1 ws0 acc0) (hl : catL tm ds s2 = some (ys, s3)) (hlen : (acc0 ++ ys).length ≤ sizeLine)
    (step : ∀ d F' H' s' ws acc oys s4 x F2 Hy Nx, Ext F1 F' → Cfg K T dk dc F0 H0 F' H' σ s' → H' p = none → Reps K F' ws acc → tm d s' = some (oys, s4) → (acc ++ oys).length ≤ sizeLine → Grow F' (upd H' p (.lst ws)) F2 Hy → Rep K F2 x d →
      NextT K T dk dc p F0 H0 F' σ s4 (acc ++ oys) Nx → Body x Hy Nx)
    (q : NextT K T dk dc p F0 H0 F1 σ s3 (acc0 ++ ys) Qend) :
    ∃ W : Nat → Nat → Hp → Prop, (∃ m, W 0 m (upd H1 p (.lst ws0))) ∧ ∀ i m H, W i m H → (J.stop i H ∧ Qend H) ∨ (J.go i H ∧ ∃ Nx : Hp → Prop, (∀ H', Nx H' → ∃ m', m' < m ∧ W (i + 1) m' H') ∧ ∀ x H', J.yld i H x H' → Body x H' Nx) := by
  refine ⟨fun i m H => i ≤ ds.length ∧ m = ds.length - i ∧ ∃ F' H' s' ws acc rest, H = upd H' p (.lst ws) ∧ H' p = none ∧ Ext F1 F' ∧ Cfg K T dk dc F0 H0 F' H' σ s' ∧ Reps K F' ws acc ∧ catL tm (ds.drop i) s' = some (rest, s3) ∧ acc0 ++ ys = acc ++ rest,
    ⟨_, Nat.zero_le _, rfl, F1, H1, _, ws0, acc0, ys, rfl, hp, Ext.refl _, c1, r0, by simpa using hl, rfl⟩, ?_⟩
  rintro i m _ ⟨hile, rfl, F', H', s', ws, acc, rest, rfl, hp', e', c', rr, hl, hys⟩
  have fz : Frz F' (upd H' p (.lst ws)) := (Grow.mine c'.frz hp').frz
  by_cases hlt : i < ds.length
  · have hd : ds.drop i = ds[i] :: ds.drop (i + 1) := List.drop_eq_getElem_cons hlt
    rw [hd] at hl
    obtain ⟨oy, s4, hl1, hl2⟩ := bindM_some hl
    obtain ⟨zs, s5, hl3, hl4⟩ := bindM_some hl2
    obtain ⟨rfl, rfl⟩ := pureM_some hl4
    refine .inr ⟨w.goes i F' _ e' fz hlt, fun H => i + 1 ≤ ds.length ∧ ∃ F' H' s' ws acc rest, H = upd H' p (.lst ws) ∧ H' p = none ∧ Ext F1 F' ∧ Cfg K T dk dc F0 H0 F' H' σ s' ∧ Reps K F' ws acc ∧ catL tm (ds.drop (i + 1)) s' = some (rest, s3) ∧ acc0 ++ ys = acc ++ rest, ?_, ?_⟩
    · rintro H ⟨h1, h2⟩
      exact ⟨_, by omega, h1, rfl, h2⟩
    · intro x Hy hy
      obtain ⟨F2, g2, r2⟩ := w.yields i F' _ x Hy e' fz hy ds[i] (List.getElem?_eq_getElem hlt)
      refine step ds[i] F' H' s' ws acc oy s4 x F2 Hy _ e' c' hp' rr hl1 ?_ g2 r2 fun F3 H3 ws3 e3 hp3 c3 r3 => ?_
      · rw [hys] at hlen
        simp only [List.length_append] at hlen ⊢
        omega
      · exact ⟨hlt, F3, H3, s4, ws3, acc ++ oy, zs, rfl, hp3, e'.trans e3, c3, r3, hl3, by simpa using hys⟩
  · have e0 : i = ds.length := by omega
    subst e0
    refine .inl ⟨w.stops F' _ e' fz, ?_⟩
    rw [List.drop_length] at hl
    obtain ⟨rfl, rfl⟩ := pureM_some hl
    simp only [List.append_nil] at hys
    rw [← hys] at rr
    exact q F' H' ws e' hp' c' rr

/-- one turn of a single for -/
theorem one_step (his : ∀ i ∈ is, i ∈ vs) {d : D} {F' H' : Hp} {s' s4 : Sta} {ws : List V} {acc oys : List D} {x : V} {F2 Hy : Hp} {Nx : Hp → Prop} (c' : Cfg K T dk dc F0 H0 F' H' (wipe σ vs) s') (hp' : H' p = none) (rr : Reps K F' ws acc)
    (hm : oneT k mt me vs d s' = some (oys, s4)) (hlen : (acc ++ oys).length ≤ sizeLine) (g2 : Grow F' (upd H' p (.lst ws)) F2 Hy) (r2 : Rep K F2 x d) (q : NextT K T dk dc p F0 H0 F' (wipe σ vs) s4 (acc ++ oys) Nx) :
    canG K T k is x (wipe σ vs) Hy fun σ2 H2 => wipe σ2 vs = wipe σ vs ∧ canT K T mt σ2 H2 fun b H3 =>
      if b = true then canE K T me σ2 H3 fun y H4 => ∃ acc, H4 p = some (.lst acc) ∧ acc.length < sizeLine ∧ Nx (upd H4 p (.lst (acc ++ [y]))) else Nx H3 := by
  have hp0 : H0 p = none := c'.base.there p hp'
  obtain ⟨nk, nc⟩ := c'.nk hp'
  obtain ⟨s8, hmm, rfl⟩ := wipeM_some hm
  obtain ⟨_, s6, ht1, ht2⟩ := bindM_some hmm
  obtain ⟨b, s7, ht3, ht5⟩ := bindM_some ht2
  have fz : Frz F' (upd H' p (.lst ws)) := (Grow.mine c'.frz hp').frz
  have ck := c'.keepIt (o := .lst ws) hp' fun ps z => by cases z
  have e2 := g2.ext fz
  refine ⟨dk, dc, _, _, F2, s', s6, d, ck.grow g2, r2, ht1, fun σ3 F3 H3 e3 c3 sm => ?_⟩
  have hw := wipe_same sm his
  refine ⟨hw, dk, dc, _, _, F3, s6, s7, b, c3, ht3, fun F4 H4 e4 c4 => ?_⟩
  cases b with
  | false =>
    simp only [Bool.false_eq_true, if_false] at ht5 ⊢
    obtain ⟨rfl, rfl⟩ := pureM_some ht5
    obtain ⟨c5, hu⟩ := c4.letOff hp0 (fun ps z => by cases z) nk nc
    have c6 := c5.wipe vs
    rw [hw] at c6
    have := q F4 (wo H4 p) ws ((e2.trans e3).trans e4) wo_same c6 (by simpa using rr.ext ((e2.trans e3).trans e4))
    rw [hu] at this
    exact this
  | true =>
    simp only [if_true] at ht5 ⊢
    obtain ⟨y, s9, hy1, hy2⟩ := bindM_some ht5
    obtain ⟨rfl, rfl⟩ := pureM_some hy2
    refine ⟨dk, dc, _, _, F4, s7, _, y, c4, hy1, fun v F5 H5 e5 c5 r5 => ?_⟩
    obtain ⟨c6, hu⟩ := c5.letOff hp0 (fun ps z => by cases z) nk nc
    have c7 := c6.wipe vs
    rw [hw] at c7
    have r6 := rr.ext (((e2.trans e3).trans e4).trans e5)
    have at5 : H5 p = some (.lst ws) := by rw [← hu, upd_same]
    refine ⟨ws, at5, ?_, ?_⟩
    · have h2 := rr.length
      simp only [List.length_append, List.length_cons, List.length_nil] at hlen
      omega
    · have := q F5 (wo H5 p) (ws ++ [v]) (((e2.trans e3).trans e4).trans e5) wo_same c7 (r6.app (Reps.one r5))
      rw [wo_upd2] at this
      exact this
theorem end_lc {s2 : Sta} (c1 : Cfg K T dk dc F0 H0 F1 H1 σ s2) (e1 : Ext F F1) (hlen : ys.length ≤ sizeLine)
    (q : ∀ p ws F1 H1, Ext F F1 → Cfg K T dk dc F0 H0 F1 H1 σ { s3 with r := backR s3.r s2.r vs } → H1 p = none → Reps K F1 ws ys → ws.length ≤ sizeLine → Q (.ref p) (upd H1 p (.lst ws))) :
    NextT K T dk dc p F0 H0 F1 (wipe σ vs) s3 ([] ++ ys) (fun H => Q (.ref p) H) := fun F3 H3 ws3 e3 hp3 c3 r3 =>
  q p ws3 F3 H3 (e1.trans e3) ⟨c3.frz, c3.base, c3.deck, c3.tabs, c3.env.back c1.env e3⟩ hp3 r3 (by rw [r3.length]; exact hlen)
theorem tLc_core (hi : ∀ (dk dc : Addr) (F0 H0 F H : Hp) (σ : L2.St) (st st' : Sta) (ds : List D) (R : It → Hp → Prop), Cfg K T dk dc F0 H0 F H σ st → ml st = some (ds, st') →
      (∀ J F' H', Ext F F' → Cfg K T dk dc F0 H0 F' H' σ st' → WalkD K J ds F' → R J H') → wi σ H R)
    (his : ∀ i ∈ is, i ∈ vs) (c : Cfg K T dk dc F0 H0 F H σ st) (hm : compM ml k mt me vs st = some (ys, st'))
    (q : ∀ p ws F1 H1, Ext F F1 → Cfg K T dk dc F0 H0 F1 H1 σ st' → H1 p = none → Reps K F1 ws ys → ws.length ≤ sizeLine → Q (.ref p) (upd H1 p (.lst ws))) :
    tLc wi (canG K T k is) (canT K T mt) (canE K T me) vs σ H Q := by
  obtain ⟨ds, s2, hm1, hm2⟩ := bindM_some hm
  obtain ⟨s3, hm3, hlen, rfl⟩ := inBlk_some hm2
  refine hi dk dc F0 H0 F H σ st s2 ds _ c hm1 fun J F1 H1 e1 c1 w => ?_
  intro p hp
  exact loop_gen (acc0 := []) w (c1.wipe vs) hp .nil hm3 (by simpa using hlen) (fun d F' H' s' ws acc oys s4 x F2 Hy Nx e' c' hp' rr hm hl g2 r2 nx => one_step his c' hp' rr hm hl g2 r2 nx) (end_lc c1 e1 hlen q)
theorem tLc2_core {ml1 : M (List D)} {k1 : D → M Unit} {is1 vs1 : List Nat} {mt1 : M Bool} (hi : ∀ (dk dc : Addr) (F0 H0 F H : Hp) (σ : L2.St) (st st' : Sta) (ds : List D) (R : It → Hp → Prop), Cfg K T dk dc F0 H0 F H σ st → ml st = some (ds, st') →
      (∀ J F' H', Ext F F' → Cfg K T dk dc F0 H0 F' H' σ st' → WalkD K J ds F' → R J H') → wi σ H R)
    (his : ∀ i ∈ is, i ∈ vs) (his1 : ∀ i ∈ is1, i ∈ vs1) (hvs : ∀ i ∈ vs1, i ∈ vs) (c : Cfg K T dk dc F0 H0 F H σ st) (hm : compM2 ml k mt ml1 k1 mt1 me vs vs1 st = some (ys, st'))
    (q : ∀ p ws F1 H1, Ext F F1 → Cfg K T dk dc F0 H0 F1 H1 σ st' → H1 p = none → Reps K F1 ws ys → ws.length ≤ sizeLine → Q (.ref p) (upd H1 p (.lst ws))) :
    tLc2 wi (canG K T k is) (canT K T mt) (canI K T ml1) (canG K T k1 is1) (canT K T mt1) (canE K T me) vs vs1 σ H Q := by
  obtain ⟨ds, s2, hm1, hm2⟩ := bindM_some hm
  obtain ⟨s3, hm3, hlen, rfl⟩ := inBlk_some hm2
  refine hi dk dc F0 H0 F H σ st s2 ds _ c hm1 fun J F1 H1 e1 c1 w => ?_
  intro p hp
  refine loop_gen (acc0 := []) w (c1.wipe vs) hp .nil hm3 (by simpa using hlen) (fun d F' H' s' ws acc oys s4 x F2 Hy Nx e' c' hp' rr hm hl g2 r2 nx => ?_) (end_lc c1 e1 hlen q)
  have hp0 : H0 p = none := c'.base.there p hp'
  obtain ⟨nk, nc⟩ := c'.nk hp'
  obtain ⟨s8, hmm, rfl⟩ := wipeM_some hm
  obtain ⟨_, s6, ht1, ht2⟩ := bindM_some hmm
  obtain ⟨b, s7, ht3, ht5⟩ := bindM_some ht2
  have fz : Frz F' (upd H' p (.lst ws)) := (Grow.mine c'.frz hp').frz
  have ck := c'.keepIt (o := .lst ws) hp' fun ps z => by cases z
  have e2 := g2.ext fz
  refine ⟨dk, dc, _, _, F2, s', s6, d, ck.grow g2, r2, ht1, fun σ3 F3 H3 e3 c3 sm => ?_⟩
  have hw := wipe_same sm his
  refine ⟨hw, dk, dc, _, _, F3, s6, s7, b, c3, ht3, fun F4 H4 e4 c4 => ?_⟩
  cases b with
  | false =>
    simp only [Bool.false_eq_true, if_false] at ht5 ⊢
    obtain ⟨rfl, rfl⟩ := pureM_some ht5
    obtain ⟨c5, hu⟩ := c4.letOff hp0 (fun ps z => by cases z) nk nc
    have c6 := c5.wipe vs
    rw [hw] at c6
    have := nx F4 (wo H4 p) ws ((e2.trans e3).trans e4) wo_same c6 (by simpa using rr.ext ((e2.trans e3).trans e4))
    rw [hu] at this
    exact this
  | true =>
    simp only [if_true] at ht5 ⊢
    obtain ⟨ds1, s9, hy1, hy2⟩ := bindM_some ht5
    refine ⟨dk, dc, _, _, F4, s7, _, ds1, c4, hy1, fun J1 F5 H5 e5 c5 w5 => ?_⟩
    obtain ⟨c6, hu⟩ := c5.letOff hp0 (fun ps z => by cases z) nk nc
    have ee := ((e2.trans e3).trans e4).trans e5
    have := loop_gen (p := p) (acc0 := acc) (Qend := Nx) w5 (c6.wipe vs1) wo_same (rr.ext ee) hy2 hl (fun d F' H' s' ws acc oys s4 x F2 Hy Nx e' c' hp' rr hm hl g2 r2 nx => one_step his1 c' hp' rr hm hl g2 r2 nx)
      (fun F6 H6 ws6 e6 hp6 c7 r6 => nx F6 H6 ws6 (ee.trans e6) hp6 ?_ r6)
    · rw [hu] at this
      exact this
    · have c8 := c7.wipe vs
      have : wipe (wipe σ3 vs1) vs = wipe σ vs := by
        rw [← hw]
        apply List.ext_getElem?
        intro j
        rw [wipe_at, wipe_at, wipe_at, wipe_length]
        by_cases h1 : j ∈ vs ∧ j < σ3.length
        · rw [if_pos h1, if_pos h1]
        · rw [if_neg h1, if_neg h1, if_neg fun z => h1 ⟨hvs j z.1, z.2⟩]
      rw [this] at c8
      exact c8
end

section
variable {X : Cx} {T : List Addr} {elt tg iter tg1 iter1 : Expr} {ifs ifs1 : List Expr} {scope : Scope} {own : List (Str × Nat)} {pos : Pos} {ml ml1 : M (List D)} {k k1 : D → M Unit} {is is1 vs1 : List Nat} {mt mt1 : M Bool} {me : M D}
/-- the parts of a comprehension, judged in its block -/
structure CParts (T : List Addr) (X : Cx) (scope : Scope) (tg : Expr) (ifs : List Expr) (k : D → M Unit) (is : List Nat) (mt : M Bool) : Prop where
  tgt : ∀ (s : Shared) (H : Hp) (C : Addr) (cl : List (Str × Addr)) (fp : List Addr), PMG T (X.blk s H scope (compEnvC scope cl C X.env) fp) tg k is
  tst : ∀ (s : Shared) (H : Hp) (C : Addr) (cl : List (Str × Addr)) (fp : List Addr), PMTs T (X.blk s H scope (compEnvC scope cl C X.env) fp) ifs mt
theorem own_lay {F : Hp} {K : PySem.W.Frag} {dk dc p : Addr} {F0 H0 F1 H1 : Hp} {σ : L2.St} {s2 : Sta} {i : Nat} {ds : List D} {vs : List V} (c1 : Cfg K T dk dc F0 H0 F1 H1 σ s2) (hp : H1 p = none) (r1 : Reps K F1 vs ds) :
    Cfg K T dk dc F0 H0 F1 (upd H1 p (.lst vs)) (σ.set i (some (.ref p))) { s2 with r := s2.r.set i (.own ds) } := by
  have c2 := c1.grow (Grow.mine (o := .lst vs) c1.frz hp)
  refine ⟨c2.frz, c2.base, c2.deck, c2.tabs, c2.env.setOwn (.inl ⟨ds, vs, rfl, c1.mine_new hp, r1⟩) fun j z hj hz n1 n2 hs => ?_⟩
  cases z with
  | un => exact n2 rfl
  | dat d => exact n1 d rfl
  | own xs =>
    obtain ⟨b, ws, z1, z2, _⟩ := c1.env.own j xs hz
    rw [z1] at hs; cases hs
    have := z2.at_
    rw [hp] at this; cases this
  | ownd xs =>
    obtain ⟨b, ws, z1, z2, _⟩ := c1.env.ownd j xs hz
    rw [z1] at hs; cases hs
    have := z2.at_
    rw [hp] at this; cases this
theorem pml_lc (hc : X.calm = true) (hN : X.N.Nodup) (hi : PMI T X tg iter ml) (ok : BlkOk X.N X.env.scope scope own) (hp : CParts T X scope tg ifs k is mt)
    (he : ∀ (s : Shared) (H : Hp) (C : Addr) (cl : List (Str × Addr)) (fp : List Addr), PM T (X.blk s H scope (compEnvC scope cl C X.env) fp) elt me)
    (his : ∀ i ∈ is, i ∈ own.map (·.2) := by decide) (hs : ∀ x, foldedSetIterable iter X.env x = pure x := by intro _; rfl) :
    PML T X (.ListComp elt [⟨tg, iter, ifs, 0⟩] scope pos) (compM ml k mt me (own.map (·.2))) := by
  obtain ⟨wi, pi, hi⟩ := hi.ex
  exact ⟨_, pe_lc (g := canG X.K T k is) (tt := canT X.K T mt) (te := canE X.K T me) hc hN pi ok (fun s H C cl fp => (hp.tgt s H C cl fp).can) (fun s H C cl fp => (hp.tst s H C cl fp).can) (fun s H C cl fp => (he s H C cl fp).can) hs,
    fun dk dc F0 H0 F H σ st st' ds Q c hm q => tLc_core hi his c hm q⟩
theorem pml_lc2 (hc : X.calm = true) (hN : X.N.Nodup) (hi : PMI T X tg iter ml) (ok : BlkOk X.N X.env.scope scope own) (hp : CParts T X scope tg ifs k is mt)
    (hi1 : ∀ (s : Shared) (H : Hp) (C : Addr) (cl : List (Str × Addr)) (fp : List Addr), PMI T (X.blk s H scope (compEnvC scope cl C X.env) fp) tg1 iter1 ml1) (hp1 : CParts T X scope tg1 ifs1 k1 is1 mt1)
    (he : ∀ (s : Shared) (H : Hp) (C : Addr) (cl : List (Str × Addr)) (fp : List Addr), PM T (X.blk s H scope (compEnvC scope cl C X.env) fp) elt me)
    (his : ∀ i ∈ is, i ∈ own.map (·.2) := by decide) (his1 : ∀ i ∈ is1, i ∈ vs1 := by decide) (hv : ∀ i ∈ vs1, i ∈ own.map (·.2) := by decide) (hs : ∀ x, foldedSetIterable iter X.env x = pure x := by intro _; rfl) (hs1 : ∀ env x, foldedSetIterable iter1 env x = pure x := by intro _ _; rfl) :
    PML T X (.ListComp elt [⟨tg, iter, ifs, 0⟩, ⟨tg1, iter1, ifs1, 0⟩] scope pos) (compM2 ml k mt ml1 k1 mt1 me (own.map (·.2)) vs1) := by
  obtain ⟨wi, pi, hi⟩ := hi.ex
  exact ⟨_, pe_lc2 (g := canG X.K T k is) (tt := canT X.K T mt) (te := canE X.K T me) (wi1 := canI X.K T ml1) (g1 := canG X.K T k1 is1) (tt1 := canT X.K T mt1) hc hN pi ok hv (fun s H C cl fp => (hp.tgt s H C cl fp).can) (fun s H C cl fp => (hp.tst s H C cl fp).can)
      (fun s H C cl fp => (hi1 s H C cl fp).can) (fun s H C cl fp => (hp1.tgt s H C cl fp).can) (fun s H C cl fp => (hp1.tst s H C cl fp).can) (fun s H C cl fp => (he s H C cl fp).can) hs hs1,
    fun dk dc F0 H0 F H σ st st' ds Q c hm q => tLc2_core hi his his1 hv c hm q⟩
/-- name = [..] on one line -/
theorem pms_setLc (i : Nat) {y : Str} {py spos : Pos} (hc : X.calm = true) (hN : X.N.Nodup) (hi : PMI T X tg iter ml) (ok : BlkOk X.N X.env.scope scope own) (hp : CParts T X scope tg ifs k is mt)
    (he : ∀ (s : Shared) (H : Hp) (C : Addr) (cl : List (Str × Addr)) (fp : List Addr), PM T (X.blk s H scope (compEnvC scope cl C X.env) fp) elt me)
    (hsw : swapsWith (.ListComp elt [⟨tg, iter, ifs, 0⟩] scope pos) (some (.Name y py)) spos.line X.env = pure true) (hy : X.N[i]? = some y := by rfl) (hyl : X.env.scope.names.lookup y = some .local := by rfl)
    (his : ∀ i ∈ is, i ∈ own.map (·.2) := by decide) (hs : ∀ x, foldedSetIterable iter X.env x = pure x := by intro _; rfl) :
    PMS T X (.Assign [.Name y py] (.ListComp elt [⟨tg, iter, ifs, 0⟩] scope pos) spos) (ownM i (compM ml k mt me (own.map (·.2)))) := by
  obtain ⟨wi, pi, hi⟩ := hi.ex
  refine ⟨_, ps_setLc (g := canG X.K T k is) (tt := canT X.K T mt) (te := canE X.K T me) hc hN hy hyl hsw pi ok (fun s H C cl fp => (hp.tgt s H C cl fp).can) (fun s H C cl fp => (hp.tst s H C cl fp).can) (fun s H C cl fp => (he s H C cl fp).can) hs, fun dk dc F0 H0 F H σ st st' fl De c hm a => ?_⟩
  obtain ⟨ds, s2, hm1, hm2⟩ := bindM_some hm
  cases hm2
  exact tLc_core hi his c hm1 fun p vs F1 H1 e1 c1 hp r1 hz => a _ F1 _ e1 (own_lay (F := F) c1 hp r1)
theorem pms_setLc2 (i : Nat) {y : Str} {py spos : Pos} (hc : X.calm = true) (hN : X.N.Nodup) (hi : PMI T X tg iter ml) (ok : BlkOk X.N X.env.scope scope own) (hp : CParts T X scope tg ifs k is mt)
    (hi1 : ∀ (s : Shared) (H : Hp) (C : Addr) (cl : List (Str × Addr)) (fp : List Addr), PMI T (X.blk s H scope (compEnvC scope cl C X.env) fp) tg1 iter1 ml1) (hp1 : CParts T X scope tg1 ifs1 k1 is1 mt1)
    (he : ∀ (s : Shared) (H : Hp) (C : Addr) (cl : List (Str × Addr)) (fp : List Addr), PM T (X.blk s H scope (compEnvC scope cl C X.env) fp) elt me)
    (hsw : swapsWith (.ListComp elt [⟨tg, iter, ifs, 0⟩, ⟨tg1, iter1, ifs1, 0⟩] scope pos) (some (.Name y py)) spos.line X.env = pure true) (hy : X.N[i]? = some y := by rfl) (hyl : X.env.scope.names.lookup y = some .local := by rfl)
    (his : ∀ i ∈ is, i ∈ own.map (·.2) := by decide) (his1 : ∀ i ∈ is1, i ∈ vs1 := by decide) (hv : ∀ i ∈ vs1, i ∈ own.map (·.2) := by decide) (hs : ∀ x, foldedSetIterable iter X.env x = pure x := by intro _; rfl) (hs1 : ∀ env x, foldedSetIterable iter1 env x = pure x := by intro _ _; rfl) :
    PMS T X (.Assign [.Name y py] (.ListComp elt [⟨tg, iter, ifs, 0⟩, ⟨tg1, iter1, ifs1, 0⟩] scope pos) spos) (ownM i (compM2 ml k mt ml1 k1 mt1 me (own.map (·.2)) vs1)) := by
  obtain ⟨wi, pi, hi⟩ := hi.ex
  refine ⟨_, ps_setLc2 (g := canG X.K T k is) (tt := canT X.K T mt) (te := canE X.K T me) (wi1 := canI X.K T ml1) (g1 := canG X.K T k1 is1) (tt1 := canT X.K T mt1) hc hN hy hyl hsw pi ok hv (fun s H C cl fp => (hp.tgt s H C cl fp).can) (fun s H C cl fp => (hp.tst s H C cl fp).can)
      (fun s H C cl fp => (hi1 s H C cl fp).can) (fun s H C cl fp => (hp1.tgt s H C cl fp).can) (fun s H C cl fp => (hp1.tst s H C cl fp).can) (fun s H C cl fp => (he s H C cl fp).can) hs hs1, fun dk dc F0 H0 F H σ st st' fl De c hm a => ?_⟩
  obtain ⟨ds, s2, hm1, hm2⟩ := bindM_some hm
  cases hm2
  exact tLc2_core hi his his1 hv c hm1 fun p vs F1 H1 e1 c1 hp r1 hz => a _ F1 _ e1 (own_lay (F := F) c1 hp r1)
end
end GA

set_option Elab.async false
set_option linter.all false
set_option maxRecDepth 100000
set_option maxHeartbeats 2000000
/-! defs, all and any, displays -/
namespace GA
open PySem PySem.Spec PyProof.Rows L2 GenW

/-! ### a def's promise by a program over data -/
def spM (K : PySem.W.Frag) (T : List Addr) (n : Nat) (f : List D → S → Option (D × S)) : Sp := fun vs H Q _ => vs.length = n ∧ ∃ (dk dc : Addr) (F : Hp) (ds : List D) (s s' : S) (d : D), Frz F H ∧ DeckAt dk dc F H s ∧ (∀ P ∈ T, GxR.TabG H P) ∧ Reps K F vs ds ∧ f ds s = some (d, s') ∧
  ∀ v F' H', Ext F F' → Out K T dk dc F H F' H' s' → Rep K F' v d → Q v H'
def runF (n np : Nat) (body : M Fl) : List D → S → Option (D × S) := fun ds s => if ds.length = np then match body ⟨s, ds.map .dat ++ List.replicate (n - np) .un⟩ with
  | some (.rt d, st') => some (d, st'.s)
  | some (.nx, st') => some (.non, st'.s)
  | _ => none else none
theorem env_start {K : PySem.W.Frag} {dk dc : Addr} {F H : Hp} {N : List Str} {vs : List V} {ds : List D} (r : Reps K F vs ds) : EnvOk K dk dc H F H (L2.start N vs) (ds.map .dat ++ List.replicate (N.length - ds.length) .un) := by
  have hl := r.length
  have no : ∀ (i : Nat) y, (ds.map Slot.dat ++ List.replicate (N.length - ds.length) .un)[i]? = some y → y = .un ∨ ∃ d, y = .dat d ∧ ds[i]? = some d := fun i y hy => by
    by_cases hi : i < ds.length
    · rw [List.getElem?_append_left (by simpa using hi), List.getElem?_map] at hy
      cases q : ds[i]? with
      | none => rw [q] at hy; cases hy
      | some d => rw [q] at hy; cases hy; exact .inr ⟨d, rfl, rfl⟩
    · rw [List.getElem?_append_right (by simpa using hi)] at hy
      have := List.getElem?_replicate (a := Slot.un) (n := N.length - ds.length) (i := i - (ds.map Slot.dat).length)
      rw [this] at hy
      split at hy
      · cases hy; exact .inl rfl
      · cases hy
  refine ⟨?_, fun i d hd => ?_, fun i xs hx => ?_, fun i xs hx => ?_, fun i j a _ h1 _ _ => ?_⟩
  · unfold L2.start
    simp [hl]
  · rcases no i _ hd with z | ⟨d', z, hd'⟩
    · cases z
    · cases z
      obtain ⟨v, h1, h2⟩ := r.get hd'
      refine ⟨v, ?_, h2⟩
      unfold L2.start
      rw [List.getElem?_append_left (by simpa using (List.getElem?_eq_some_iff.mp h1).1), List.getElem?_map, h1]
      rfl
  · rcases no i _ hx with z | ⟨d', z, hd'⟩ <;> cases z
  · rcases no i _ hx with z | ⟨d', z, hd'⟩ <;> cases z
  · obtain ⟨y, g1, g2, g3⟩ := h1
    rcases no i _ g1 with z | ⟨d', z, hd'⟩
    · exact absurd z g3
    · exact absurd z (g2 d')

theorem FnM {P : Program} {w : World} {K : PySem.W.Frag} {mg : Str → Option Value} {base : Heap} {x qual : Str} {st : Stmt} {f : Addr} {fd : FuncData} {N ps : List Str} {k : Nat} {T : List Addr} {body : M Fl}
    (F : Fun K x qual st f fd) (S : FnScope N ps (defScope st))
    (hb : ∀ (cdv : Value) (A : Around) (below : List Env) (s : Shared) (H : Hp) (E : XK), fd.code = cdv → RoomQ k (A.deeper (envOfC qual (defScope st) s.heap.objs.size f cdv)) →
      PMSs T (cxOf CX0 P w K mg base N qual (defScope st) f cdv A below s H E).nox (defBody st) body) :
    FnQ P w K mg base CX0 (k + 1) f fd ps (spM K T ps.length (runF N.length ps.length body)) := by
  refine F.okQ S (fun vs H Q E h => h.1) fun cdv A below s H vs Q E hcd hco rq hsp => ?_
  obtain ⟨hl, dk, dc, F0, ds, s0, s', d, fz, dk', tb, rr, hf, q⟩ := hsp
  obtain ⟨t, p, h⟩ := (hb cdv A below s H E hco rq).ex
  refine ⟨t, p, ?_⟩
  have hl2 : ds.length = ps.length := by rw [← rr.length]; exact hl
  unfold runF at hf
  rw [if_pos hl2, ← hl2] at hf
  have c : Cfg K T dk dc F0 H F0 H (L2.start N vs) ⟨s0, ds.map .dat ++ List.replicate (N.length - ds.length) .un⟩ := ⟨fz, Base.refl, dk', tb, env_start rr⟩
  cases hm : body ⟨s0, ds.map .dat ++ List.replicate (N.length - ds.length) .un⟩ with
  | none => rw [hm] at hf; cases hf
  | some r =>
    obtain ⟨fl, st'⟩ := r
    rw [hm] at hf
    refine h dk dc F0 H F0 H _ _ st' fl _ c hm ?_
    cases fl with
    | rt d' =>
      cases hf
      exact fun v F' H' e o r => q v F' H' e o r
    | nx =>
      cases hf
      exact fun σ' F' H' e c' => q .non F' H' e c'.out .non
    | bk => cases hf
    | ct => cases hf

/-! ### a call -/
theorem Cfg.called {K : PySem.W.Frag} {T : List Addr} {dk dc : Addr} {F0 H0 F1 H1 F' H' : Hp} {σ : L2.St} {st : Sta} {s' : S} (c : Cfg K T dk dc F0 H0 F1 H1 σ st) (e : Ext F1 F') (o : Out K T dk dc F1 H1 F' H' s') : Cfg K T dk dc F0 H0 F' H' σ { st with s := s' } := by
  have mv : ∀ {a : Addr} {u : HO}, Mine dk dc H0 F1 H1 a u → (∀ ps, u ≠ .tbl ps) → Mine dk dc H0 F' H' a u := fun {a u} m n => by
    obtain ⟨x, y⟩ := o.base.keep a u m.at_ n m.nk m.nc
    exact ⟨y.trans m.fr, x, m.new, m.nk, m.nc⟩
  exact ⟨o.frz, c.base.trans o.base, o.deck, o.tabs, ⟨c.env.len, fun i d h => let ⟨v, a, b⟩ := c.env.dat i d h; ⟨v, a, b.ext e⟩,
    fun i xs h => let ⟨a, vs, h1, h2, h3⟩ := c.env.own i xs h; ⟨a, vs, h1, mv h2 fun ps z => (by cases z), h3.ext e⟩,
    fun i xs h => let ⟨a, vs, h1, h2, h3, h4⟩ := c.env.ownd i xs h; ⟨a, vs, h1, mv h2 fun ps z => (by cases z), h3.ext e, h4⟩, c.env.apart⟩⟩
def callM (n : Nat) (f : List D → S → Option (D × S)) (ma : M (List D)) : M D := bindM ma fun ds => fun st => if ds.length = n then match f ds st.s with
  | some (d, s') => some (d, { st with s := s' })
  | none => none else none
theorem callM_some {n : Nat} {f : List D → S → Option (D × S)} {ma : M (List D)} {st st' : Sta} {d : D} (h : callM n f ma st = some (d, st')) : ∃ ds s1 s', ma st = some (ds, s1) ∧ ds.length = n ∧ f ds s1.s = some (d, s') ∧ st' = { s1 with s := s' } := by
  obtain ⟨ds, s1, h1, h2⟩ := bindM_some h
  split at h2
  · rename_i hn
    cases hf : f ds s1.s with
    | none => rw [hf] at h2; cases h2
    | some r =>
      obtain ⟨d', s'⟩ := r
      rw [hf] at h2
      cases h2
      exact ⟨ds, s1, s', h1, hn, hf, rfl⟩
  · cases h2
/-- the is-th items -/
def pickL {α : Type} (is : List Nat) (l : List α) : List α := is.filterMap fun i => l[i]?
theorem pickL_cons {α : Type} (i : Nat) (is : List Nat) (l : List α) : pickL (i :: is) l = match l[i]? with | none => pickL is l | some x => x :: pickL is l := by
  unfold pickL
  rw [List.filterMap_cons]
  split <;> (rename_i h; rw [h])
theorem Reps.pick {K : PySem.W.Frag} {F : Hp} {vs : List V} {ds : List D} (r : Reps K F vs ds) : ∀ is, Reps K F (pickL is vs) (pickL is ds)
  | [] => .nil
  | i :: is => by
    rw [pickL_cons, pickL_cons]
    cases hv : vs[i]? with
    | none =>
      have hd : ds[i]? = none := by
        rw [List.getElem?_eq_none_iff] at hv ⊢
        rw [← r.length]; exact hv
      rw [hd]
      exact r.pick is
    | some v =>
      obtain ⟨d, hd, rd⟩ := r.getV hv
      rw [hd]
      exact .cons rd (r.pick is)
theorem vals_pick {zs : List V} {ws : List Value} (r : Vals zs ws) : ∀ is, Vals (pickL is zs) (pickL is ws)
  | [] => .nil
  | i :: is => by
    rw [pickL_cons, pickL_cons]
    cases hv : zs[i]? with
    | none =>
      have hd : ws[i]? = none := by
        rw [List.getElem?_eq_none_iff] at hv ⊢
        rw [← r.length]; exact hv
      rw [hd]
      exact vals_pick r is
    | some v =>
      obtain ⟨u, hd, rd⟩ := r.get hv
      rw [hd]
      exact .cons rd (vals_pick r is)
/-- the values of keywords -/
structure PMK (T : List Addr) (X : Cx) (kws : List Keyword) (m : M (List D)) : Prop where
  ex : ∃ t : TA, PK X kws t ∧ ∀ (dk dc : Addr) (F0 H0 F H : Hp) (σ : L2.St) (st st' : Sta) (ds : List D) (Q : List V → Hp → Prop), Cfg X.K T dk dc F0 H0 F H σ st → m st = some (ds, st') →
    (∀ vs F' H', Ext F F' → Cfg X.K T dk dc F0 H0 F' H' σ st' → Reps X.K F' vs ds → Q vs H') → t σ H Q
section
variable {X : Cx} {T : List Addr} {k : Nat} {f : Addr} {fd : FuncData} {ps : List Str} {x : Str} {p pos : Pos} {e : Expr} {es : List Expr} {ml : M (List D)} {ma : M D} {ff : List D → S → Option (D × S)} {kws : List Keyword} {kpos : Pos} {nm : Option Str} {ks : List Str} {is : List Nat}
theorem pm_call (F : FnQ X.prog X.w X.K X.mg X.base CX0 k f fd ps (spM X.K T ps.length ff)) (rq : RoomQ k X.A) (hg : Gl X x) (hm : X.mg x = some (.ref f)) (hk : PySem.W.keepIn X.K (.ref f) = true) (hb : L2.Binds X.K fd ps []) (ha : PMA T X (e :: es) ml)
    (h1 : (x == ("__debug__" : Str)) = false := by decide) (h2 : starEach (e :: es) X.env = (false, eval e X.env) :: starEach es X.env := by rfl) (h3 : (backTo pos (starEach es X.env)).any (·.1) = false := by rfl) :
    PM T X (.Call (.Name x p) (e :: es) [] pos) (callM ps.length ff ml) := by
  obtain ⟨t, pt, h⟩ := ha.ex
  refine ⟨_, pe_callq (E := E0) F rq hg hm hk hb pass0 pt h1 h2 h3, fun dk dc F0 H0 F H σ st st' d Q c hm q => ?_⟩
  obtain ⟨ds, s1, s', hm1, hl, hf, rfl⟩ := callM_some hm
  refine h dk dc F0 H0 F H σ st s1 ds _ c hm1 fun vs F1 H1 e1 c1 r1 => ?_
  rw [List.append_nil]
  exact ⟨by rw [r1.length]; exact hl, dk, dc, F1, ds, s1.s, s', d, c1.frz, c1.deck, c1.tabs, r1, hf, fun v F' H' e2 o r => q v F' H' (e1.trans e2) (c1.called e2 o) r⟩
theorem pmk_nil : PMK T X [] (pureM []) := ⟨_, pk_nil, fun dk dc F0 H0 F H σ st st' ds Q c hm q => by
  obtain ⟨rfl, rfl⟩ := pureM_some hm
  exact q [] F H (Ext.refl F) c .nil⟩
theorem pmk_cons (a : PM T X e ma) (r : PMK T X kws ml) : PMK T X (⟨nm, e, kpos⟩ :: kws) (consM ma ml) := by
  obtain ⟨t, pt, h⟩ := a.ex
  obtain ⟨u, pu, g⟩ := r.ex
  refine ⟨_, pk_cons pt pu, fun dk dc F0 H0 F H σ st st' ds Q c hm q => ?_⟩
  obtain ⟨d, s2, hm1, hm2⟩ := bindM_some hm
  obtain ⟨dl, s3, hm3, hm4⟩ := bindM_some hm2
  obtain ⟨rfl, rfl⟩ := pureM_some hm4
  exact h dk dc F0 H0 F H σ st s2 d _ c hm1 fun v F1 H1 e1 c1 r1 => g dk dc F0 H0 F1 H1 σ s2 _ dl _ c1 hm3 fun vs F2 H2 e2 c2 r2 => q _ F2 H2 (e1.trans e2) c2 (.cons (r1.ext e2) r2)
/-- all by name, the is-th of them is the parameters' row -/
theorem pm_callk (F : FnQ X.prog X.w X.K X.mg X.base CX0 k f fd ps (spM X.K T ps.length ff)) (rq : RoomQ k X.A) (hg : Gl X x) (hm : X.mg x = some (.ref f)) (hk : PySem.W.keepIn X.K (.ref f) = true)
    (hb : ∀ (s : Shared) (ws : List Value), (pickL is ws).length = ps.length → BindsTo s fd ⟨[], ks.zip ws⟩ (ps.zip (pickL is ws))) (ha : PMK T X kws ml)
    (h4 : (backToKw pos (keywordEach kws X.env)).all (·.1.isSome) = true := by rfl) (h5 : (backToKw pos (keywordEach kws X.env)).filterMap (·.1) = ks := by rfl)
    (h6 : ((backTo pos (starEach [] X.env)).any (·.1) || (backToKw pos (keywordEach kws X.env)).any (·.1.isNone)) = false := by rfl) (h1 : (x == ("__debug__" : Str)) = false := by decide) :
    PM T X (.Call (.Name x p) [] kws pos) (callM ps.length ff (bindM ml fun ds => pureM (pickL is ds))) := by
  obtain ⟨t, pt, h⟩ := ha.ex
  refine ⟨_, pe_callqk (E := E0) (g := pickL is) (gV := pickL is) F rq hg hm hk hb (fun r => vals_pick r is) pass0 pt h4 h5 h6 h1, fun dk dc F0 H0 F H σ st st' d Q c hm q => ?_⟩
  obtain ⟨ds, s1, s', hm1, hl, hf, rfl⟩ := callM_some hm
  obtain ⟨ds0, s2, hm2, hm3⟩ := bindM_some hm1
  obtain ⟨rfl, rfl⟩ := pureM_some hm3
  refine h dk dc F0 H0 F H σ st s1 ds0 _ c hm2 fun vs F1 H1 e1 c1 r1 => ?_
  have r2 := r1.pick is
  exact ⟨by rw [r2.length]; exact hl, dk, dc, F1, pickL is ds0, s1.s, s', d, c1.frz, c1.deck, c1.tabs, r2, hf, fun v F' H' e2 o r => q v F' H' (e1.trans e2) (c1.called e2 o) r⟩
end

/-! ### all and any -/
def allL (d : Bool) (k : D → M Unit) (tt : M Bool) (te : M D) (vs : List Nat) : List D → M Bool
  | [] => pureM d
  | x :: r => bindM (wipeM vs (bindM (k x) fun _ => bindM tt fun b => if b then bindM te fun y => liftM (asB y) else pureM d)) fun c => if c = d then allL d k tt te vs r else pureM (!d)
def allM (d : Bool) (it : M (List D)) (k : D → M Unit) (tt : M Bool) (te : M D) (vs : List Nat) : M D := bindM it fun ds => fun st => match allL d k tt te vs ds { st with r := wipeR st.r vs } with
  | some (b, st') => some (.bl b, { st' with r := backR st'.r st.r vs })
  | none => none
theorem Cfg.tabbed {K : PySem.W.Frag} {T : List Addr} {dk dc P : Addr} {F0 H0 F H H2 : Hp} {σ : L2.St} {st : Sta} (c : Cfg K T dk dc F0 H0 F H σ st) (hP : P ∈ T) (tb : GxR.Tabbed P H H2) : Cfg K T dk dc F0 H0 F H2 σ st := by
  obtain ⟨pt, hp, _⟩ := c.tabs P hP
  have ne : ∀ {a : Addr} {o : HO}, H a = some o → (∀ ps, o ≠ .tbl ps) → H2 a = some o := fun {a o} e n => by
    have : a ≠ P := fun z => by
      rw [z, hp] at e
      exact n pt (Option.some.inj e).symm
    rw [tb.2 a this]; exact e
  obtain ⟨d1, d2, d3, d4⟩ := c.deck
  refine ⟨fun b o e => ⟨ne (c.frz b o e).1 (c.frz b o e).2, (c.frz b o e).2⟩, ⟨fun b o e n n1 n2 => ?_, fun b e => ?_⟩, ⟨d1, d2, ne d3 fun ps z => (by cases z), ne d4 fun ps z => (by cases z)⟩, fun Q hQ => ?_, ⟨c.env.len, c.env.dat, fun i xs h => ?_, fun i xs h => ?_, c.env.apart⟩⟩
  · obtain ⟨x, y⟩ := c.base.keep b o e n n1 n2
    exact ⟨ne x n, y⟩
  · refine c.base.there b ?_
    by_cases q : b = P
    · obtain ⟨ps, h, _⟩ := tb.1
      rw [q, h] at e; cases e
    · rw [tb.2 b q] at e; exact e
  · by_cases q : Q = P
    · rw [q]; exact tb.1
    · obtain ⟨ps, h, t⟩ := c.tabs Q hQ
      exact ⟨ps, by rw [tb.2 Q q]; exact h, t⟩
  · obtain ⟨a, vs, h1, h2, h3⟩ := c.env.own i xs h
    exact ⟨a, vs, h1, ⟨h2.fr, ne h2.at_ fun ps z => (by cases z), h2.new, h2.nk, h2.nc⟩, h3⟩
  · obtain ⟨a, vs, h1, h2, h3⟩ := c.env.ownd i xs h
    exact ⟨a, vs, h1, ⟨h2.fr, ne h2.at_ fun ps z => (by cases z), h2.new, h2.nk, h2.nc⟩, h3⟩
/-- the parts of a generator expression, judged in its own frame -/
structure AParts (T : List Addr) (X : Cx) (k : Nat) (scope : Scope) (elt tg : Expr) (ifs : List Expr) (kk : D → M Unit) (is : List Nat) (mt : M Bool) (me : M D) : Prop where
  tgt : ∀ (s : Shared) (H : Hp) (C : Addr) (code : Value) (fp : List Addr) (pn : List (Addr × Obj)), RoomQ k (X.A.in1.in1.deeper (gEnv X scope C code)) → PMG T (gx X s H scope (gEnv X scope C code) fp pn) tg kk is
  tst : ∀ (s : Shared) (H : Hp) (C : Addr) (code : Value) (fp : List Addr) (pn : List (Addr × Obj)), RoomQ k (X.A.in1.in1.deeper (gEnv X scope C code)) → PMTs T (gx X s H scope (gEnv X scope C code) fp pn) ifs mt
  elm : ∀ (s : Shared) (H : Hp) (C : Addr) (code : Value) (fp : List Addr) (pn : List (Addr × Obj)), RoomQ k (X.A.in1.in1.deeper (gEnv X scope C code)) → PM T (gx X s H scope (gEnv X scope C code) fp pn) elt me
section
variable {X : Cx} {T : List Addr} {k : Nat} {c P : Addr} {elt tg iter : Expr} {ifs : List Expr} {scope : Scope} {own : List (Str × Nat)} {gpos p pos : Pos} {ml : M (List D)} {kk : D → M Unit} {is : List Nat} {mt : M Bool} {me : M D}
theorem AParts.can (rq : RoomQ (k + 1) X.A) (h : AParts T X k scope elt tg ifs kk is mt me) : GParts X k scope elt tg ifs (canG X.K T kk is) (canT X.K T mt) (canE X.K T me) := by
  have q : ∀ ge, (X.A.in1.in1.deeper ge).guards = some [] := fun ge => guards_deeper.trans rq.quiet
  exact ⟨fun s H C code fp pn r => (h.tgt s H C code fp pn ⟨r, q _⟩).can, fun s H C code fp pn r => (h.tst s H C code fp pn ⟨r, q _⟩).can, fun s H C code fp pn r => (h.elm s H C code fp pn ⟨r, q _⟩).can⟩
theorem tQ_core {d : Bool} {K : PySem.W.Frag} {wi : TI} {vs : List Nat} {dk dc : Addr} {F0 H0 F H : Hp} {σ : L2.St} {st st' : Sta} {y : D} {Q : VK} (hP : P ∈ T)
    (hi : ∀ (dk dc : Addr) (F0 H0 F H : Hp) (σ : L2.St) (st st' : Sta) (ds : List D) (R : It → Hp → Prop), Cfg K T dk dc F0 H0 F H σ st → ml st = some (ds, st') →
      (∀ J F' H', Ext F F' → Cfg K T dk dc F0 H0 F' H' σ st' → WalkD K J ds F' → R J H') → wi σ H R)
    (his : ∀ i ∈ is, i ∈ vs) (c : Cfg K T dk dc F0 H0 F H σ st) (hm : allM d ml kk mt me vs st = some (y, st'))
    (q : ∀ v F' H', Ext F F' → Cfg K T dk dc F0 H0 F' H' σ st' → Rep K F' v y → Q v H') : tQ d P wi (canG K T kk is) (canT K T mt) (canE K T me) vs σ H Q := by
  obtain ⟨ds, s2, hm1, hm2⟩ := bindM_some hm
  cases ha : allL d kk mt me vs ds { s2 with r := wipeR s2.r vs } with
  | none => rw [ha] at hm2; cases hm2
  | some r =>
  obtain ⟨b, s3⟩ := r
  rw [ha] at hm2
  cases hm2
  refine hi dk dc F0 H0 F H σ st s2 ds _ c hm1 fun J F1 H1 e1 c1 w => ⟨c1.tabs P hP, fun H2 tb => ?_⟩
  have c2 := c1.tabbed hP tb
  have fin : ∀ {F' H'}, Ext F1 F' → Cfg K T dk dc F0 H0 F' H' (wipe σ vs) s3 → Q (.bl b) H' := fun {F' H'} e' c' =>
    q (.bl b) F' H' (e1.trans e') ⟨c'.frz, c'.base, c'.deck, c'.tabs, c'.env.back c2.env e'⟩ (.bl b)
  refine ⟨fun i m H => i ≤ ds.length ∧ m = ds.length - i ∧ ∃ F' s', Ext F1 F' ∧ Cfg K T dk dc F0 H0 F' H (wipe σ vs) s' ∧ allL d kk mt me vs (ds.drop i) s' = some (b, s3),
    ⟨_, Nat.zero_le _, rfl, F1, _, Ext.refl _, c2.wipe vs, by simpa using ha⟩, ?_⟩
  rintro i m H ⟨hile, rfl, F', s', e', c', hl⟩
  by_cases hlt : i < ds.length
  · refine .inr ⟨w.goes i F' _ e' c'.frz hlt, fun H => i + 1 ≤ ds.length ∧ ∃ F' s', Ext F1 F' ∧ Cfg K T dk dc F0 H0 F' H (wipe σ vs) s' ∧ allL d kk mt me vs (ds.drop (i + 1)) s' = some (b, s3), ?_, ?_⟩
    · rintro H ⟨h1, h2⟩
      exact ⟨_, by omega, h1, rfl, h2⟩
    · intro x Hy hy
      have hd : ds.drop i = ds[i] :: ds.drop (i + 1) := List.drop_eq_getElem_cons hlt
      rw [hd] at hl
      obtain ⟨cc, s4, hl1, hl2⟩ := bindM_some hl
      obtain ⟨s8, hmm, rfl⟩ := wipeM_some hl1
      obtain ⟨_, s6, ht1, ht2⟩ := bindM_some hmm
      obtain ⟨bb, s7, ht3, ht5⟩ := bindM_some ht2
      obtain ⟨F2, g2, r2⟩ := w.yields i F' _ x Hy e' c'.frz hy ds[i] (List.getElem?_eq_getElem hlt)
      have e2 := g2.ext c'.frz
      refine ⟨dk, dc, _, _, F2, s', s6, ds[i], c'.grow g2, r2, ht1, fun σ3 F3 H3 e3 c3 sm => ?_⟩
      have hw := wipe_same sm his
      refine ⟨hw, dk, dc, _, _, F3, s6, s7, bb, c3, ht3, fun F4 H4 e4 c4 => ?_⟩
      have ee := ((e'.trans e2).trans e3).trans e4
      cases bb with
      | false =>
        simp only [Bool.false_eq_true, if_false] at ht5 ⊢
        obtain ⟨rfl, rfl⟩ := pureM_some ht5
        have c6 := c4.wipe vs
        rw [hw] at c6
        rw [if_pos rfl] at hl2
        exact ⟨hlt, F4, _, ee, c6, hl2⟩
      | true =>
        simp only [if_true] at ht5 ⊢
        obtain ⟨y, s9, hy1, hy2⟩ := bindM_some ht5
        obtain ⟨hb, rfl⟩ := liftM_some hy2
        refine ⟨dk, dc, _, _, F4, s7, _, y, c4, hy1, fun v F5 H5 e5 c5 r5 => ?_⟩
        have c6 := c5.wipe vs
        rw [hw] at c6
        cases y with
        | bl c0 =>
          have hcc : c0 = cc := Option.some.inj hb
          subst hcc
          obtain rfl := r5.bl_inv
          refine ⟨c0, rfl, ?_⟩
          by_cases hcd : c0 = d
          · rw [if_pos hcd] at hl2 ⊢
            exact ⟨hlt, F5, _, ee.trans e5, c6, hl2⟩
          · rw [if_neg hcd] at hl2 ⊢
            obtain ⟨rfl, rfl⟩ := pureM_some hl2
            exact fin (ee.trans e5) c6
        | _ => cases hb
  · have e0 : i = ds.length := by omega
    subst e0
    refine .inl ⟨w.stops F' _ e' c'.frz, ?_⟩
    rw [List.drop_length] at hl
    obtain ⟨rfl, rfl⟩ := pureM_some hl
    exact fin e' c'
theorem pm_all (rq : RoomQ (k + 1) X.A) (hg : Gl X "all") (hm : X.mg "all" = none) (hc : X.calm = true) (hN : X.N.Nodup) (TB : GxR.TabB X.base X.mg c P) (hP : P ∈ T) (hcode : X.env.code = .ref c) (ok : BlkOk X.N X.env.scope scope own) (sc : GScp scope)
    (hi : PMI T X tg iter ml) (hp : AParts T X k scope elt tg ifs kk is mt me)
    (his : ∀ i ∈ is, i ∈ own.map (·.2) := by decide) (hb : bootBuiltins "all" = some (.builtin "all") := by decide +kernel) (hs : ∀ v, genFold iter X.env v = pure v := by intro _; rfl)
    (he : starEach [.GeneratorExp elt [⟨tg, iter, ifs, 0⟩] scope gpos] X.env = (false, eval (.GeneratorExp elt [⟨tg, iter, ifs, 0⟩] scope gpos) X.env) :: starEach [] X.env := by rfl) :
    PM T X (.Call (.Name "all" p) [.GeneratorExp elt [⟨tg, iter, ifs, 0⟩] scope gpos] [] pos) (allM true ml kk mt me (own.map (·.2))) := by
  obtain ⟨wi, pi, hi⟩ := hi.ex
  exact ⟨_, pe_all rq.room hg hm hc hN TB hcode ok sc pi (hp.can rq) hb hs he, fun dk dc F0 H0 F H σ st st' d Q c hm q => tQ_core hP hi his c hm q⟩
theorem pm_any (rq : RoomQ (k + 1) X.A) (hg : Gl X "any") (hm : X.mg "any" = none) (hc : X.calm = true) (hN : X.N.Nodup) (TB : GxR.TabB X.base X.mg c P) (hP : P ∈ T) (hcode : X.env.code = .ref c) (ok : BlkOk X.N X.env.scope scope own) (sc : GScp scope)
    (hi : PMI T X tg iter ml) (hp : AParts T X k scope elt tg ifs kk is mt me)
    (his : ∀ i ∈ is, i ∈ own.map (·.2) := by decide) (hb : bootBuiltins "any" = some (.builtin "any") := by decide +kernel) (hs : ∀ v, genFold iter X.env v = pure v := by intro _; rfl)
    (he : starEach [.GeneratorExp elt [⟨tg, iter, ifs, 0⟩] scope gpos] X.env = (false, eval (.GeneratorExp elt [⟨tg, iter, ifs, 0⟩] scope gpos) X.env) :: starEach [] X.env := by rfl) :
    PM T X (.Call (.Name "any" p) [.GeneratorExp elt [⟨tg, iter, ifs, 0⟩] scope gpos] [] pos) (allM false ml kk mt me (own.map (·.2))) := by
  obtain ⟨wi, pi, hi⟩ := hi.ex
  exact ⟨_, pe_any rq.room hg hm hc hN TB hcode ok sc pi (hp.can rq) hb hs he, fun dk dc F0 H0 F H σ st st' d Q c hm q => tQ_core hP hi his c hm q⟩

/-! ### displays -/
def fitM (m : M (List D)) : M (List D) := bindM m fun ds => liftM (if ds.length ≤ sizeLine then some ds else none)
def tupM (m : M (List D)) : M D := bindM (fitM m) fun ds => pureM (.tup false ds)
theorem fit_some {m : M (List D)} {st st' : Sta} {ds : List D} (h : fitM m st = some (ds, st')) : m st = some (ds, st') ∧ ds.length ≤ sizeLine := by
  obtain ⟨d, s2, h1, h2⟩ := bindM_some h
  obtain ⟨h3, rfl⟩ := liftM_some h2
  split at h3
  · cases h3; exact ⟨h1, by assumption⟩
  · cases h3
theorem pm_tup {es : List Expr} {x1} (h : PMA T X es ml) : PM T X (.Tuple es x1 pos) (tupM ml) := by
  obtain ⟨t, pt, h⟩ := h.ex
  refine ⟨_, pe_tup pt, fun dk dc F0 H0 F H σ st st' d Q c hm q => ?_⟩
  obtain ⟨ds, s2, hm1, hm2⟩ := bindM_some hm
  obtain ⟨rfl, rfl⟩ := pureM_some hm2
  obtain ⟨hm3, hl⟩ := fit_some hm1
  refine h dk dc F0 H0 F H σ st _ _ _ c hm3 fun vs F1 H1 e1 c1 r1 => ⟨by rw [r1.length]; exact hl, fun p hp => ?_⟩
  have g := Grow.new (o := .tup vs) c1.frz hp fun ps z => by cases z
  have e2 := g.ext c1.frz
  exact q _ _ _ (e1.trans e2) (c1.grow g) (.tup (.inl (.inl upd_same)) (fun z => by cases z) (r1.ext e2))
theorem pml_lst {es : List Expr} (h : PMA T X es ml) : PML T X (.List es pos) (fitM ml) := by
  obtain ⟨t, pt, h⟩ := h.ex
  refine ⟨_, pe_lst pt, fun dk dc F0 H0 F H σ st st' d Q c hm q => ?_⟩
  obtain ⟨hm3, hl⟩ := fit_some hm
  refine h dk dc F0 H0 F H σ st _ _ _ c hm3 fun vs F1 H1 e1 c1 r1 => ⟨by rw [r1.length]; exact hl, fun p hp => ?_⟩
  exact q p vs F1 H1 e1 c1 hp r1 (by rw [r1.length]; exact hl)
end
end GA

set_option Elab.async false
set_option linter.all false
set_option maxRecDepth 100000
set_option maxHeartbeats 2000000
/-! operators and calls by values, over data -/
namespace GA
open PySem PySem.Spec PyProof.Rows L2 GenW

/-! ### data as Python prints and compares them -/
mutual
def toPy : D → Option PyData
  | .non => some .none
  | .bl b => some (.bool b)
  | .int i => some (.int i)
  | .str x => some (.str x)
  | .tup _ xs => (toPys xs).map .tuple
  | .lst xs => (toPys xs).map .list
  | .raw _ => none
  | .rg _ _ => none
def toPys : List D → Option (List PyData)
  | [] => some []
  | x :: xs => (toPy x).bind fun a => (toPys xs).map (a :: ·)
end
mutual
theorem Rep.dp {K : PySem.W.Frag} {F H : Hp} (z : Frz F H) : ∀ {d : D} {v : V} {p : PyData}, Rep K F v d → toPy d = some p → Dp K H v p
  | .non, _, _, r, e => by cases r; cases e; exact .non
  | .bl b, _, _, r, e => by cases r; cases e; exact .bl b
  | .int i, _, _, r, e => by cases r; cases e; exact .int i
  | .str x, _, _, r, e => by cases r; cases e; exact .str x
  | .tup b ds, _, p, r, e => by
    cases r with
    | tup h n r =>
      unfold toPy at e
      cases q : toPys ds with
      | none => rw [q] at e; cases e
      | some ps =>
        rw [q] at e; cases e
        exact .tup (z.sqT h) (Reps.dp z r q)
  | .lst ds, _, p, r, e => by
    cases r with
    | lst h r =>
      unfold toPy at e
      cases q : toPys ds with
      | none => rw [q] at e; cases e
      | some ps =>
        rw [q] at e; cases e
        exact .lst (z.sqL (.inl (.inl h))) (Reps.dp z r q)
  | .raw v, _, _, r, e => by unfold toPy at e; cases e
  | .rg _ _, _, _, r, e => by unfold toPy at e; cases e
theorem Reps.dp {K : PySem.W.Frag} {F H : Hp} (z : Frz F H) : ∀ {ds : List D} {vs : List V} {ps : List PyData}, Reps K F vs ds → toPys ds = some ps → DpAll K H vs ps
  | [], _, _, r, e => by cases r; unfold toPys at e; cases e; exact .nil
  | d :: ds, _, ps, r, e => by
    cases r with
    | cons r1 r2 =>
      unfold toPys at e
      cases q : toPy d with
      | none => rw [q] at e; cases e
      | some a =>
        rw [q] at e
        cases q2 : toPys ds with
        | none => rw [q2] at e; cases e
        | some as =>
          rw [q2] at e; cases e
          exact .cons (Rep.dp z r1 q) (Reps.dp z r2 q2)
end
def isRef : D → Bool | .tup .. => true | .lst .. => true | _ => false
def reprD : List D → Option D
  | [d] => if isRef d then (toPy d).bind fun p => if p.showable = true ∧ p.hasDict = false ∧ p.depth ≤ 60 ∧ p.shown.length ≤ sizeLine then some (.str p.shown) else none else none
  | _ => none
def rReprD (K : PySem.W.Frag) : List V → Hp → VK → Prop := fun xs H Q => ∃ a d, xs = [.ref a] ∧ Dp K H (.ref a) d ∧ (d.showable = true ∧ d.hasDict = false ∧ d.depth ≤ 60 ∧ d.shown.length ≤ sizeLine) ∧ Q (.str d.shown) H
theorem cr_repr {X : Cx} (hq : X.A.guards = some []) (hu : X.A.units + 64 < cLine) : CallR X (.builtin "repr") (rReprD X.K) := by
  intro pins s σ H xs us Q I r h
  obtain ⟨a, d, rfl, hd, ⟨h1, h2, h3, h4⟩, q⟩ := h
  cases r with
  | cons r1 rr =>
    cases rr
    cases r1
    obtain ⟨as, rd⟩ := Dp.reads I d _ _ hd rfl
    exact repr_of_reads' rd h1 (fun z => by rw [h2] at z; cases z) hq (by omega) (fun _ _ e => e) (fun h' u tk hk => ⟨.str d.shown, H, I.kept (t' := tk) hk, ⟨u, rfl⟩, q⟩) h4
theorem cd_repr {K : PySem.W.Frag} : CallD K (rReprD K) reprD := by
  intro F H xs ds d Q z r hf q
  unfold reprD at hf
  split at hf
  · rename_i x
    obtain ⟨v, rfl, r1⟩ := r.one_inv
    split at hf
    · rename_i hr
      cases hp : toPy x with
      | none => rw [hp] at hf; cases hf
      | some p =>
        rw [hp] at hf
        simp only [Option.bind_some] at hf
        split at hf
        · rename_i hc
          cases hf
          have dp := r1.dp z hp
          cases r1 with
          | tup a n b => exact ⟨_, p, rfl, dp, hc, q _ F H (Grow.refl z) (.str _)⟩
          | lst a b => exact ⟨_, p, rfl, dp, hc, q _ F H (Grow.refl z) (.str _)⟩
          | _ => cases hr
        · cases hf
    · cases hf
  · cases hf

/-! ### calls in an expression -/
section
variable {X : Cx} {T : List Addr} {e : Expr} {es : List Expr} {x : Str} {p pos : Pos} {ml : M (List D)} {r : List V → Hp → VK → Prop} {f : List D → Option D} {g : List D → Option (List D)} {id : String}
def callD (f : List D → Option D) (ml : M (List D)) : M D := bindM ml fun ds => liftM (f ds)
def callL (g : List D → Option (List D)) (ml : M (List D)) : M (List D) := bindM ml fun ds => liftM (g ds)
theorem pm_bi (hc : CallR X (.builtin id) r) (hf : CallD X.K r f) (hg : Gl X x) (hm : X.mg x = none) (ha : PMA T X (e :: es) ml) (hv : bootBuiltins x = some (.builtin id) := by decide +kernel) (hn : x ≠ "__name__" := by decide) (hdb : (x == ("__debug__" : Str)) = false := by decide)
    (he : starEach (e :: es) X.env = (false, eval e X.env) :: starEach es X.env := by rfl) (hpl : (backTo pos (starEach es X.env)).any (·.1) = false := by rfl) : PM T X (.Call (.Name x p) (e :: es) [] pos) (callD f ml) := by
  obtain ⟨t, pt, h⟩ := ha.ex
  refine ⟨_, pe_callB hc hg hm hv pt hn hdb he hpl, fun dk dc F0 H0 F H σ st st' d Q c hm q => ?_⟩
  obtain ⟨ds, s1, hm1, hm2⟩ := bindM_some hm
  obtain ⟨hf', rfl⟩ := liftM_some hm2
  exact h dk dc F0 H0 F H σ st _ ds _ c hm1 fun vs F1 H1 e1 c1 r1 => hf F1 H1 vs ds d Q c1.frz r1 hf' fun v F2 H2 g2 r2 => q v F2 H2 (e1.trans (g2.ext c1.frz)) (c1.grow g2) r2
theorem pm_ty (hc : CallR X (.type id) r) (hf : CallD X.K r f) (hg : Gl X x) (hm : X.mg x = none) (ha : PMA T X (e :: es) ml) (hv : bootBuiltins x = some (.type id) := by decide +kernel) (hn : x ≠ "__name__" := by decide) (hdb : (x == ("__debug__" : Str)) = false := by decide)
    (he : starEach (e :: es) X.env = (false, eval e X.env) :: starEach es X.env := by rfl) (hpl : (backTo pos (starEach es X.env)).any (·.1) = false := by rfl) : PM T X (.Call (.Name x p) (e :: es) [] pos) (callD f ml) := by
  obtain ⟨t, pt, h⟩ := ha.ex
  refine ⟨_, pe_callTy hc hg hm hv pt hn hdb he hpl, fun dk dc F0 H0 F H σ st st' d Q c hm q => ?_⟩
  obtain ⟨ds, s1, hm1, hm2⟩ := bindM_some hm
  obtain ⟨hf', rfl⟩ := liftM_some hm2
  exact h dk dc F0 H0 F H σ st _ ds _ c hm1 fun vs F1 H1 e1 c1 r1 => hf F1 H1 vs ds d Q c1.frz r1 hf' fun v F2 H2 g2 r2 => q v F2 H2 (e1.trans (g2.ext c1.frz)) (c1.grow g2) r2
theorem pml_bi (hc : CallR X (.builtin id) r) (hf : CallL X.K r g) (hg : Gl X x) (hm : X.mg x = none) (ha : PMA T X (e :: es) ml) (hv : bootBuiltins x = some (.builtin id) := by decide +kernel) (hn : x ≠ "__name__" := by decide) (hdb : (x == ("__debug__" : Str)) = false := by decide)
    (he : starEach (e :: es) X.env = (false, eval e X.env) :: starEach es X.env := by rfl) (hpl : (backTo pos (starEach es X.env)).any (·.1) = false := by rfl) : PML T X (.Call (.Name x p) (e :: es) [] pos) (callL g ml) := by
  obtain ⟨t, pt, h⟩ := ha.ex
  refine ⟨_, pe_callB hc hg hm hv pt hn hdb he hpl, fun dk dc F0 H0 F H σ st st' d Q c hm q => ?_⟩
  obtain ⟨ds, s1, hm1, hm2⟩ := bindM_some hm
  obtain ⟨hf', rfl⟩ := liftM_some hm2
  exact h dk dc F0 H0 F H σ st _ ds _ c hm1 fun vs F1 H1 e1 c1 r1 => hf F1 H1 vs ds d Q c1.frz r1 hf' fun p ws F2 H2 g2 hp r2 hz => q p ws F2 H2 (e1.trans (g2.ext c1.frz)) (c1.grow g2) hp r2 hz
theorem pml_ty (hc : CallR X (.type id) r) (hf : CallL X.K r g) (hg : Gl X x) (hm : X.mg x = none) (ha : PMA T X (e :: es) ml) (hv : bootBuiltins x = some (.type id) := by decide +kernel) (hn : x ≠ "__name__" := by decide) (hdb : (x == ("__debug__" : Str)) = false := by decide)
    (he : starEach (e :: es) X.env = (false, eval e X.env) :: starEach es X.env := by rfl) (hpl : (backTo pos (starEach es X.env)).any (·.1) = false := by rfl) : PML T X (.Call (.Name x p) (e :: es) [] pos) (callL g ml) := by
  obtain ⟨t, pt, h⟩ := ha.ex
  refine ⟨_, pe_callTy hc hg hm hv pt hn hdb he hpl, fun dk dc F0 H0 F H σ st st' d Q c hm q => ?_⟩
  obtain ⟨ds, s1, hm1, hm2⟩ := bindM_some hm
  obtain ⟨hf', rfl⟩ := liftM_some hm2
  exact h dk dc F0 H0 F H σ st _ ds _ c hm1 fun vs F1 H1 e1 c1 r1 => hf F1 H1 vs ds d Q c1.frz r1 hf' fun p ws F2 H2 g2 hp r2 hz => q p ws F2 H2 (e1.trans (g2.ext c1.frz)) (c1.grow g2) hp r2 hz
end

/-! ### operators -/
section
variable {K : PySem.W.Frag}
theorem OpD.or {r1 r2 : R2} {f1 f2 f : D → D → Option D} (h1 : OpD K r1 f1) (h2 : OpD K r2 f2) (h : ∀ a b d, f a b = some d → f1 a b = some d ∨ f2 a b = some d) : OpD K (fun x y H Q => r1 x y H Q ∨ r2 x y H Q) f :=
  fun F H x y a b d Q z ra rb hf q => (h a b d hf).elim (fun e => .inl (h1 F H x y a b d Q z ra rb e q)) fun e => .inr (h2 F H x y a b d Q z ra rb e q)
def iiD (g : Int → Int → D) : D → D → Option D | .int i, .int j => some (g i j) | _, _ => none
def iiCD (c : Int → Int → Bool) (g : Int → Int → D) : D → D → Option D | .int i, .int j => if c i j then some (g i j) else none | _, _ => none
theorem od_ii {gv : Int → Int → V} {g : Int → Int → D} (h : ∀ i j F, Rep K F (gv i j) (g i j)) : OpD K (rI0 gv) (iiD g) := by
  intro F H x y a b d Q z ra rb hf q
  unfold iiD at hf
  split at hf
  · cases hf
    obtain rfl := ra.int_inv
    obtain rfl := rb.int_inv
    exact ⟨_, _, rfl, rfl, q _ F H (Grow.refl z) (h _ _ F)⟩
  · cases hf
theorem od_iiC {C : Int → Int → Prop} {c : Int → Int → Bool} {gv : Int → Int → V} {g : Int → Int → D} (hc : ∀ i j, c i j = true → C i j) (h : ∀ i j F, Rep K F (gv i j) (g i j)) : OpD K (rI C gv) (iiCD c g) := by
  intro F H x y a b d Q z ra rb hf q
  unfold iiCD at hf
  split at hf
  · split at hf
    · rename_i hcc
      cases hf
      obtain rfl := ra.int_inv
      obtain rfl := rb.int_inv
      exact ⟨_, _, rfl, rfl, hc _ _ hcc, q _ F H (Grow.refl z) (h _ _ F)⟩
    · cases hf
  · cases hf
def subD := iiD fun i j => .int (i - j)
def ltD := iiD fun i j => .bl (decide (i < j))
def leD := iiD fun i j => .bl (decide (i ≤ j))
def gtD := iiD fun i j => .bl (decide (j < i))
def geD := iiD fun i j => .bl (decide (j ≤ i))
def modD := iiCD (fun _ j => decide (0 < j)) fun i j => .int (i % j)
def fdivD := iiCD (fun _ j => decide (0 < j ∧ j.natAbs.log2 < 9000)) fun i j => .int (i / j)
theorem od_sub : OpD K (rI0 fun i j => .int (i - j)) subD := od_ii fun _ _ _ => .int _
theorem od_lt : OpD K (rI0 fun i j => .bl (decide (i < j))) ltD := od_ii fun _ _ _ => .bl _
theorem od_le : OpD K (rI0 fun i j => .bl (decide (i ≤ j))) leD := od_ii fun _ _ _ => .bl _
theorem od_gt : OpD K (rI0 fun i j => .bl (decide (j < i))) gtD := od_ii fun _ _ _ => .bl _
theorem od_ge : OpD K (rI0 fun i j => .bl (decide (j ≤ i))) geD := od_ii fun _ _ _ => .bl _
theorem od_mod : OpD K (rI (fun _ j => 0 < j) fun i j => .int (i % j)) modD := od_iiC (fun _ _ h => of_decide_eq_true h) fun _ _ _ => .int _
theorem od_fdiv : OpD K (rI CDivW fun i j => .int (i / j)) fdivD := od_iiC (fun _ j h => (show 0 < j ∧ j.natAbs.log2 < 9000 from of_decide_eq_true h)) fun _ _ _ => .int _
/-- what a new object is to the reader -/
theorem new_tup {F H : Hp} {p : Addr} {vs : List V} {ds : List D} (z : Frz F H) (hp : H p = none) (r : Reps K F vs ds) : ∃ F', Grow F H F' (upd H p (.tup vs)) ∧ Rep K F' (.ref p) (.tup false ds) := by
  have g := Grow.new (o := .tup vs) z hp fun ps w => by cases w
  exact ⟨_, g, .tup (.inl (.inl upd_same)) (fun w => by cases w) (r.ext (g.ext z))⟩
theorem new_lst {F H : Hp} {p : Addr} {vs : List V} {ds : List D} (z : Frz F H) (hp : H p = none) (r : Reps K F vs ds) : ∃ F', Grow F H F' (upd H p (.lst vs)) ∧ Rep K F' (.ref p) (.lst ds) := by
  have g := Grow.new (o := .lst vs) z hp fun ps w => by cases w
  exact ⟨_, g, .lst upd_same (r.ext (g.ext z))⟩
def catD : D → D → Option D | .lst xs, .lst ys => if xs.length + ys.length ≤ sizeLine then some (.lst (xs ++ ys)) else none | _, _ => none
theorem od_cat : OpD K rCat catD := by
  intro F H x y a b d Q z ra rb hf q
  unfold catD at hf
  split at hf
  · split at hf
    · rename_i xs ys hl
      cases hf
      obtain ⟨p, vs, rfl, hp, r1⟩ := ra.lst_at
      obtain ⟨p2, ws, rfl, hp2, r2⟩ := rb.lst_at
      refine ⟨p, p2, vs, ws, rfl, rfl, (z _ _ hp).1, (z _ _ hp2).1, by rw [r1.length, r2.length]; exact hl, fun l hln => ?_⟩
      obtain ⟨F', g, r3⟩ := new_lst (K := K) z hln (r1.app r2)
      exact q _ F' _ g r3
    · cases hf
  · cases hf
def catTD : D → D → Option D
  | .tup b xs, .tup c ys => if xs.length + ys.length ≤ sizeLine then (if xs = [] then some (.tup c ys) else if ys = [] then some (.tup b xs) else some (.tup false (xs ++ ys))) else none
  | _, _ => none
theorem od_catT : OpD K (rCatA K) catTD := by
  intro F H x y a b d Q z ra rb hf q
  unfold catTD at hf
  split at hf
  · split at hf
    · rename_i xs _ ys hl
      have ra' := ra
      have rb' := rb
      obtain ⟨p, vs, rfl, hp, r1⟩ := ra.tup_inv
      obtain ⟨p2, ws, rfl, hp2, r2⟩ := rb.tup_inv
      have l1 := r1.length
      have l2 := r2.length
      refine ⟨p, p2, vs, ws, rfl, rfl, z.sqT hp, z.sqT hp2, by rw [l1, l2]; exact hl, fun e => ?_, fun e e2 => ?_, fun e e2 l hln => ?_⟩
      · subst e
        have : xs = [] := List.eq_nil_of_length_eq_zero l1.symm
        rw [if_pos this] at hf
        cases hf
        exact q _ F H (Grow.refl z) rb'
      · have n1 : xs ≠ [] := fun h => e (List.eq_nil_of_length_eq_zero (by rw [l1, h]; rfl))
        subst e2
        have : ys = [] := List.eq_nil_of_length_eq_zero l2.symm
        rw [if_neg n1, if_pos this] at hf
        cases hf
        exact q _ F H (Grow.refl z) ra'
      · have n1 : xs ≠ [] := fun h => e (List.eq_nil_of_length_eq_zero (by rw [l1, h]; rfl))
        have n2 : ys ≠ [] := fun h => e2 (List.eq_nil_of_length_eq_zero (by rw [l2, h]; rfl))
        rw [if_neg n1, if_neg n2] at hf
        cases hf
        obtain ⟨F', g, r3⟩ := new_tup (K := K) z hln (r1.app r2)
        exact q _ F' _ g r3
    · cases hf
  · cases hf
def addSD : D → D → Option D
  | .str x, .str y => if x.length + y.length ≤ sizeLine then some (.str (x ++ y)) else none
  | _, _ => none
abbrev rAddT : R2 := fun x y H Q => ∃ i j, x = .str i ∧ y = .str j ∧ i.length + j.length ≤ sizeLine ∧ Q (.str (i ++ j)) H
theorem od_addS : OpD K rAddT addSD := by
  intro F H x y a b d Q z ra rb hf q
  unfold addSD at hf
  split at hf
  · split at hf
    · cases hf
      obtain rfl := ra.str_inv
      obtain rfl := rb.str_inv
      exact ⟨_, _, rfl, rfl, by assumption, q _ F H (Grow.refl z) (.str _)⟩
    · cases hf
  · cases hf
def addID := iiD fun i j => .int (i + j)
theorem od_addI : OpD K (rI0 fun i j => .int (i + j)) addID := od_ii fun _ _ _ => .int _
def addD (a b : D) : Option D := match a, b with
  | .int i, .int j => some (.int (i + j))
  | .lst xs, .lst ys => catD (.lst xs) (.lst ys)
  | .tup b xs, .tup c ys => catTD (.tup b xs) (.tup c ys)
  | .str x, .str y => addSD (.str x) (.str y)
  | _, _ => none
theorem od_add : OpD K (fun x y H Q => (rI0 (fun i j => .int (i + j)) x y H Q ∨ rCat x y H Q) ∨ (rCatA K x y H Q ∨ rAddT x y H Q)) addD := OpD.or (f1 := fun a b => match a, b with | .int i, .int j => some (.int (i + j)) | .lst xs, .lst ys => catD (.lst xs) (.lst ys) | _, _ => none) (f2 := fun a b => match a, b with | .tup b xs, .tup c ys => catTD (.tup b xs) (.tup c ys) | .str x, .str y => addSD (.str x) (.str y) | _, _ => none)
  (od_addI.or od_cat fun a b d h => by
    split at h
    · exact .inl h
    · exact .inr h
    · cases h) (od_catT.or od_addS fun a b d h => by
    split at h
    · exact .inl h
    · exact .inr h
    · cases h) fun a b d h => by
  unfold addD at h
  split at h
  · exact .inl h
  · exact .inl h
  · exact .inr h
  · exact .inr h
  · cases h
theorem op_addD {X : Cx} : OpR X (binaryOp .Add) (fun x y H Q => (rI0 (fun i j => .int (i + j)) x y H Q ∨ rCat x y H Q) ∨ (rCatA X.K x y H Q ∨ rAddT x y H Q)) := (op_add.or op_cat).or (op_catA.or op_add_str)
def repD : D → D → Option D | .lst xs, .int k => if -(2 ^ 63) ≤ k ∧ k < 2 ^ 63 ∧ xs.length * k.toNat ≤ sizeLine then some (.lst (List.replicate k.toNat xs).flatten) else none | _, _ => none
theorem Reps.rep {F : Hp} {vs : List V} {ds : List D} (r : Reps K F vs ds) : ∀ n, Reps K F (List.replicate n vs).flatten (List.replicate n ds).flatten
  | 0 => .nil
  | n + 1 => by
    rw [List.replicate_succ, List.replicate_succ, List.flatten_cons, List.flatten_cons]
    exact r.app (r.rep n)
theorem od_rep : OpD K rRep repD := by
  intro F H x y a b d Q z ra rb hf q
  unfold repD at hf
  split at hf
  · split at hf
    · rename_i xs k hl
      cases hf
      obtain ⟨p, vs, rfl, hp, r1⟩ := ra.lst_at
      obtain rfl := rb.int_inv
      refine ⟨p, k, vs, rfl, rfl, (z _ _ hp).1, hl.1, hl.2.1, by rw [r1.length]; exact hl.2.2, fun l hln => ?_⟩
      obtain ⟨F', g, r3⟩ := new_lst (K := K) z hln (r1.rep k.toNat)
      exact q _ F' _ g r3
    · cases hf
  · cases hf
def mulID := iiCD (fun i j => decide (i.natAbs.log2 + j.natAbs.log2 < 1000000)) fun i j => .int (i * j)
theorem od_mulI : OpD K (rI CMulW fun i j => .int (i * j)) mulID := od_iiC (fun i j h => (show i.natAbs.log2 + j.natAbs.log2 < 1000000 from of_decide_eq_true h)) fun _ _ _ => .int _
def repTD : D → D → Option D | .tup b xs, .int k => if xs ≠ [] ∧ 2 ≤ k ∧ k ≤ 1000 ∧ xs.length ≤ 1000 then some (.tup false (List.replicate k.toNat xs).flatten) else none | _, _ => none
theorem od_repT : OpD K (rRepT K) repTD := by
  intro F H x y a b d Q z ra rb hf q
  unfold repTD at hf
  split at hf
  · split at hf
    · rename_i xs k hc
      cases hf
      obtain ⟨p, vs, rfl, hp, r1⟩ := ra.tup_inv
      obtain rfl := rb.int_inv
      have l1 := r1.length
      refine ⟨p, _, vs, rfl, rfl, z.sqT hp, fun e => hc.1 (List.eq_nil_of_length_eq_zero (by rw [← l1, e]; rfl)), hc.2.1, hc.2.2.1, by rw [l1]; exact hc.2.2.2, fun l hln => ?_⟩
      obtain ⟨F', g, r3⟩ := new_tup (K := K) z hln (r1.rep _)
      exact q _ F' _ g r3
    · cases hf
  · cases hf
def mulD (a b : D) : Option D := match a, b with
  | .int i, .int j => mulID (.int i) (.int j)
  | .lst xs, .int k => repD (.lst xs) (.int k)
  | .tup b xs, .int k => repTD (.tup b xs) (.int k)
  | _, _ => none
theorem od_mul : OpD K (fun x y H Q => (rI CMulW (fun i j => .int (i * j)) x y H Q ∨ rRep x y H Q) ∨ rRepT K x y H Q) mulD := OpD.or (f1 := fun a b => match a, b with | .int i, .int j => mulID (.int i) (.int j) | .lst xs, .int k => repD (.lst xs) (.int k) | _, _ => none) (od_mulI.or od_rep fun a b d h => by
  split at h
  · exact .inl h
  · exact .inr h
  · cases h) od_repT fun a b d h => by
  unfold mulD at h
  split at h
  · exact .inl h
  · exact .inl h
  · exact .inr h
  · cases h
theorem op_mulD {X : Cx} : OpR X (binaryOp .Mult) (fun x y H Q => (rI CMulW (fun i j => .int (i * j)) x y H Q ∨ rRep x y H Q) ∨ rRepT X.K x y H Q) := (op_mulW.or op_rep).or op_repT
def eqPy (a b : D) : Option D := (toPy a).bind fun p => (toPy b).bind fun q => if SeqAt.shaped p = true ∧ SeqAt.shaped q = true then some (.bl (PyData.eqv p q)) else none
def nePy (a b : D) : Option D := (toPy a).bind fun p => (toPy b).bind fun q => if SeqAt.shaped p = true ∧ SeqAt.shaped q = true then some (.bl (!PyData.eqv p q)) else none
def twoStr : D → D → Option (Str × Str) | .str x, .str y => some (x, y) | _, _ => none
def eqD (a b : D) : Option D := match twoStr a b with | some (x, y) => some (.bl (decide (x = y))) | none => eqPy a b
def neD (a b : D) : Option D := match twoStr a b with | some (x, y) => some (.bl (!decide (x = y))) | none => nePy a b
theorem twoStr_some {a b : D} {x y : Str} (h : twoStr a b = some (x, y)) : a = .str x ∧ b = .str y := by
  unfold twoStr at h
  split at h
  · cases h; exact ⟨rfl, rfl⟩
  · cases h
theorem two_py {a b d : D} {g : PyData → PyData → Option D} (h : ((toPy a).bind fun p => (toPy b).bind fun q => g p q) = some d) : ∃ p q, toPy a = some p ∧ toPy b = some q ∧ g p q = some d := by
  cases ha : toPy a with
  | none => rw [ha] at h; cases h
  | some p =>
    cases hb : toPy b with
    | none => rw [ha, hb] at h; cases h
    | some q => rw [ha, hb] at h; exact ⟨p, q, rfl, rfl, h⟩
theorem od_eqPy : OpD K (rEqD K) eqPy := by
  intro F H x y a b d Q z ra rb hf q
  obtain ⟨p1, p2, h1, h2, h3⟩ := two_py hf
  split at h3
  · rename_i hs
    cases h3
    exact ⟨p1, p2, ra.dp z h1, rb.dp z h2, hs.1, hs.2, q _ F H (Grow.refl z) (.bl _)⟩
  · cases h3
theorem od_nePy : OpD K (rNeD K) nePy := by
  intro F H x y a b d Q z ra rb hf q
  obtain ⟨p1, p2, h1, h2, h3⟩ := two_py hf
  split at h3
  · rename_i hs
    cases h3
    exact ⟨p1, p2, ra.dp z h1, rb.dp z h2, hs.1, hs.2, q _ F H (Grow.refl z) (.bl _)⟩
  · cases h3
theorem dec_txt {x y : Str} : decide (V.str x = V.str y) = decide (x = y) := by
  by_cases h : x = y
  · subst h; simp
  · rw [decide_eq_false h, decide_eq_false fun z => h (V.str.inj z)]
theorem od_eq : OpD K (fun x y H Q => rEq x y H Q ∨ rEqD K x y H Q) eqD := by
  intro F H x y a b d Q z ra rb hf q
  unfold eqD at hf
  cases ht : twoStr a b with
  | some p =>
    obtain ⟨u, v⟩ := p
    rw [ht] at hf
    cases hf
    obtain ⟨rfl, rfl⟩ := twoStr_some ht
    cases ra
    cases rb
    exact .inl ⟨rfl, by rw [dec_txt]; exact q _ F H (Grow.refl z) (.bl _)⟩
  | none =>
    rw [ht] at hf
    exact .inr (od_eqPy F H x y a b d Q z ra rb hf q)
theorem od_ne : OpD K (fun x y H Q => rNe x y H Q ∨ rNeD K x y H Q) neD := by
  intro F H x y a b d Q z ra rb hf q
  unfold neD at hf
  cases ht : twoStr a b with
  | some p =>
    obtain ⟨u, v⟩ := p
    rw [ht] at hf
    cases hf
    obtain ⟨rfl, rfl⟩ := twoStr_some ht
    cases ra
    cases rb
    exact .inl ⟨rfl, by rw [dec_txt]; exact q _ F H (Grow.refl z) (.bl _)⟩
  | none =>
    rw [ht] at hf
    exact .inr (od_nePy F H x y a b d Q z ra rb hf q)
theorem op_eqA {X : Cx} (hu : X.A.units + 64 < cLine) : OpR X (compareOp .Eq) (fun x y H Q => rEq x y H Q ∨ rEqD X.K x y H Q) := op_eq.or (op_eqD hu)
theorem op_neA {X : Cx} (hu : X.A.units + 64 < cLine) : OpR X (compareOp .NotEq) (fun x y H Q => rNe x y H Q ∨ rNeD X.K x y H Q) := op_ne.or (op_neD hu)
/-- is, of two truths or with None -/
def isNon : D → Option Bool
  | .non => some true
  | .raw _ => none
  | _ => some false
theorem isNon_v {F : Hp} {v : V} {d : D} {b : Bool} (r : Rep K F v d) (h : isNon d = some b) : decide (v = .non) = b := by
  cases r <;> cases h <;> simp
def isD : D → D → Option D
  | .bl a, .bl b => some (.bl (decide (a = b)))
  | a, .non => (isNon a).map .bl
  | _, _ => none
def isnD : D → D → Option D
  | a, .non => (isNon a).map fun b => .bl (!b)
  | _, _ => none
theorem od_is : OpD K (fun x y H Q => (∃ a b, x = .bl a ∧ y = .bl b ∧ Q (.bl (decide (a = b))) H) ∨ (y = .non ∧ Q (.bl (decide (x = .non))) H)) isD := by
  intro F H x y a b d Q z ra rb hf q
  unfold isD at hf
  split at hf
  · cases hf
    obtain rfl := ra.bl_inv
    obtain rfl := rb.bl_inv
    exact .inl ⟨_, _, rfl, rfl, q _ F H (Grow.refl z) (.bl _)⟩
  · obtain rfl := rb.non_inv
    cases hn : isNon a with
    | none => rw [hn] at hf; cases hf
    | some k =>
      rw [hn] at hf
      cases hf
      exact .inr ⟨rfl, by rw [isNon_v ra hn]; exact q _ F H (Grow.refl z) (.bl _)⟩
  · cases hf
theorem od_isn : OpD K (fun x y H Q => y = .non ∧ Q (.bl (!decide (x = .non))) H) isnD := by
  intro F H x y a b d Q z ra rb hf q
  unfold isnD at hf
  split at hf
  · obtain rfl := rb.non_inv
    cases hn : isNon a with
    | none => rw [hn] at hf; cases hf
    | some k =>
      rw [hn] at hf
      cases hf
      exact ⟨rfl, by rw [isNon_v ra hn]; exact q _ F H (Grow.refl z) (.bl _)⟩
  · cases hf
theorem op_isA {X : Cx} : OpR X (compareOp .Is) (fun x y H Q => (∃ a b, x = .bl a ∧ y = .bl b ∧ Q (.bl (decide (a = b))) H) ∨ (y = .non ∧ Q (.bl (decide (x = .non))) H)) := op_is_bl.or op_isN
/-- an int in ints -/
def intsD : List D → Option (List Int)
  | [] => some []
  | .int i :: r => (intsD r).map (i :: ·)
  | _ :: _ => none
theorem intsD_map : ∀ {ds : List D} {ns : List Int}, intsD ds = some ns → ds = ns.map .int
  | [], _, h => by cases h; rfl
  | .int i :: r, _, h => by
    unfold intsD at h
    cases q : intsD r with
    | none => rw [q] at h; cases h
    | some ms => rw [q] at h; cases h; rw [intsD_map q]; rfl
  | .non :: _, _, h => by cases h
  | .bl _ :: _, _, h => by cases h
  | .str _ :: _, _, h => by cases h
  | .tup .. :: _, _, h => by cases h
  | .lst _ :: _, _, h => by cases h
  | .raw _ :: _, _, h => by cases h
theorem intsD_of : ∀ (ns : List Int), intsD (ns.map .int) = some ns
  | [] => rfl
  | i :: r => by show (intsD (r.map .int)).map (i :: ·) = _; rw [intsD_of r]; rfl
theorem Reps.ints {F : Hp} : ∀ {ns : List Int} {vs : List V}, Reps K F vs (ns.map .int) → vs = ns.map .int
  | [], _, r => by cases r; rfl
  | n :: ns, _, r => by
    cases r with
    | cons a b => rw [a.int_inv, Reps.ints b]; rfl
theorem Reps.of_ints {F : Hp} : ∀ (ns : List Int), Reps K F (ns.map .int) (ns.map .int)
  | [] => .nil
  | n :: ns => .cons (.int n) (Reps.of_ints ns)
/-- a text in texts -/
def strsD : List D → Option (List Str)
  | [] => some []
  | .str i :: r => (strsD r).map (i :: ·)
  | _ :: _ => none
theorem strsD_map : ∀ {ds : List D} {ns : List Str}, strsD ds = some ns → ds = ns.map .str
  | [], _, h => by cases h; rfl
  | .str i :: r, _, h => by
    unfold strsD at h
    cases q : strsD r with
    | none => rw [q] at h; cases h
    | some ms => rw [q] at h; cases h; rw [strsD_map q]; rfl
  | .non :: _, _, h => by cases h
  | .bl _ :: _, _, h => by cases h
  | .int _ :: _, _, h => by cases h
  | .tup .. :: _, _, h => by cases h
  | .lst _ :: _, _, h => by cases h
  | .raw _ :: _, _, h => by cases h
theorem Reps.strs {F : Hp} : ∀ {ns : List Str} {vs : List V}, Reps K F vs (ns.map .str) → vs = ns.map .str
  | [], _, r => by cases r; rfl
  | n :: ns, _, r => by
    cases r with
    | cons a b => rw [a.str_inv, Reps.strs b]; rfl
def inD (neg : Bool) : D → D → Option D
  | .int i, b => (asSeq b).bind fun ds => (intsD ds).map fun ns => .bl (if neg then !decide (i ∈ ns) else decide (i ∈ ns))
  | .str i, b => (asSeq b).bind fun ds => (strsD ds).map fun ns => .bl (if neg then !decide (i ∈ ns) else decide (i ∈ ns))
  | _, _ => none
theorem inV_strs (i : Str) : ∀ (ns : List Str), inV (.str i) (ns.map V.str) = decide (i ∈ ns)
  | [] => rfl
  | n :: ns => by
    have := inV_strs i ns
    unfold inV at this ⊢
    rw [List.map_cons, List.any_cons, this]
    show ((n == i) || _) = _
    rw [Bool.eq_iff_iff]
    simp only [Bool.or_eq_true, beq_iff_eq, decide_eq_true_eq, List.mem_cons]
    exact ⟨fun h => h.elim (fun e => .inl e.symm) .inr, fun h => h.elim (fun e => .inl e.symm) .inr⟩
theorem inV_ints (i : Int) : ∀ (ns : List Int), inV (.int i) (ns.map V.int) = decide (i ∈ ns)
  | [] => rfl
  | n :: ns => by
    have := inV_ints i ns
    unfold inV at this ⊢
    rw [List.map_cons, List.any_cons, this]
    show ((n == i) || _) = _
    rw [Bool.eq_iff_iff]
    simp only [Bool.or_eq_true, beq_iff_eq, decide_eq_true_eq, List.mem_cons]
    exact ⟨fun h => h.elim (fun e => .inl e.symm) .inr, fun h => h.elim (fun e => .inl e.symm) .inr⟩
theorem od_in {neg : Bool} : OpD K (rIn K neg) (inD neg) := by
  intro F H x y a b d Q z ra rb hf q
  cases a with
  | int i =>
    unfold inD at hf
    simp only at hf
    cases hs : asSeq b with
    | none => rw [hs] at hf; cases hf
    | some ds =>
      rw [hs] at hf
      simp only [Option.bind_some] at hf
      cases hi : intsD ds with
      | none => rw [hi] at hf; cases hf
      | some ns =>
        rw [hi] at hf
        cases hf
        obtain rfl := ra.int_inv
        have e := intsD_map hi
        have all : (ns.map V.int).all flatV = true := by simp [flatV]
        cases b with
        | lst es =>
          cases hs
          subst e
          obtain ⟨p, vs, rfl, hp, r1⟩ := rb.lst_inv
          have := r1.ints
          subst this
          exact ⟨p, _, rfl, .inl (z.sqL hp), rfl, all, by rw [inV_ints]; exact q _ F H (Grow.refl z) (.bl _)⟩
        | tup bb es =>
          cases hs
          subst e
          obtain ⟨p, vs, rfl, hp, r1⟩ := rb.tup_inv
          have := r1.ints
          subst this
          exact ⟨p, _, rfl, .inr (z.sqT hp), rfl, all, by rw [inV_ints]; exact q _ F H (Grow.refl z) (.bl _)⟩
        | _ => cases hs
  | str i =>
    unfold inD at hf
    simp only at hf
    cases hs : asSeq b with
    | none => rw [hs] at hf; cases hf
    | some ds =>
      rw [hs] at hf
      simp only [Option.bind_some] at hf
      cases hi : strsD ds with
      | none => rw [hi] at hf; cases hf
      | some ns =>
        rw [hi] at hf
        cases hf
        obtain rfl := ra.str_inv
        have e := strsD_map hi
        have all : (ns.map V.str).all flatV = true := by simp [flatV]
        cases b with
        | lst es =>
          cases hs
          subst e
          obtain ⟨p, vs, rfl, hp, r1⟩ := rb.lst_inv
          have := r1.strs
          subst this
          exact ⟨p, _, rfl, .inl (z.sqL hp), rfl, all, by rw [inV_strs]; exact q _ F H (Grow.refl z) (.bl _)⟩
        | tup bb es =>
          cases hs
          subst e
          obtain ⟨p, vs, rfl, hp, r1⟩ := rb.tup_inv
          have := r1.strs
          subst this
          exact ⟨p, _, rfl, .inr (z.sqT hp), rfl, all, by rw [inV_strs]; exact q _ F H (Grow.refl z) (.bl _)⟩
        | _ => cases hs
  | _ => unfold inD at hf; cases hf
end
end GA

set_option Elab.async false
set_option linter.all false
set_option maxRecDepth 100000
set_option maxHeartbeats 2000000
/-! sorted of a tuple of ints -/
namespace GA
open PySem PySem.Spec PyProof.Rows L2 GenW Srt SrtO

section
variable {prog : Program} {w : World} {A : Around} {E : Value → Shared → Prop} {s : Shared}
theorem gathers {t : Addr} {us : List Value} {Q : List Value → Shared → Prop} (ht : IsTup s.heap t us.toArray) (hsz : us.length ≤ sizeLine)
    (h : Q us { s with heap := (s.heap.push (seqObj "list" #[] 0)).update s.heap.objs.size (Obj.mapSeq (· ++ us.toArray)) }) : wpAny (model prog w) A (collect (.ref t)) Q E s := by
  obtain ⟨ob, eo, cls, num, dat⟩ := id ht
  have kept : (s.heap.push (seqObj "list" #[] 0)).get? t = some ob := Heap.get?_push_of_some _ eo
  unfold collect
  apply wpAny_bind
  apply wpAny_runValue
  apply codeAny_builtin entry_proto_collect'
  show wpAny _ _ (newList [] >>= fun l => again (.builtin "list.__iadd__" ⟨[l, .ref t], []⟩)) _ _ s
  apply wpAny_bind
  refine wpAny_newList ?_ (Nat.zero_le _)
  apply wpAny_pure
  refine ⟨Code.quiet_builtin _ (by decide +kernel), ?_⟩
  apply codeAny_builtin entry_list_iadd'
  show wpAny _ _ (Builtin.List.listExtendWith (.ref s.heap.objs.size) (.ref t) (.ref s.heap.objs.size)) _ _ { s with heap := s.heap.push (seqObj "list" #[] 0) }
  unfold Builtin.List.listExtendWith
  apply wpAny_bind
  refine wpAny_typeOf (T := "tuple") ⟨ob, kept, cls⟩ ?_
  have tt : (Value.type "tuple" == Value.type "tuple") = true := by rfl
  rw [if_pos (by rw [tt, Bool.or_true])]
  apply wpAny_bind
  refine listItems_at kept dat ?_
  apply wpAny_bind
  refine listItems_at (xs := #[]) (n := 0) (Heap.get?_push_size _ rfl) rfl ?_
  rw [if_neg (by simp)]
  apply wpAny_bind
  refine listUpdate_at (xs := #[]) (n := 0) (Heap.get?_push_size _ rfl) rfl ?_ (Nat.zero_le _) (by show (#[] ++ us.toArray).size ≤ sizeLine + 1; rw [Array.size_append, List.size_toArray]; show 0 + us.length ≤ _; omega)
  apply wpAny_pure
  refine wpAny_bind (wpAny_load (get?_update_seq (Heap.get?_push_size _ rfl) _) ?_)
  show wpAny _ _ (pure ((#[] : Array Value) ++ us.toArray).toList) Q E _
  have e : ((#[] : Array Value) ++ us.toArray).toList = us := by simp
  rw [e]
  exact wpAny_pure h
theorem sortedT {t : Addr} {us : List Value} {lt : Value → Value → Bool} {Q : Value → Shared → Prop} (O : Swo lt) (ht : IsTup s.heap t us.toArray) (hsz : us.length ≤ sizeLine)
    (hS : 2 ≤ us.length → ∀ (h1 : Heap) (a : Addr), h1.get? a = some (seqObj "list" us.toArray 0) → SortableO prog w A.in1.in1 { s with heap := h1 } a us lt)
    (h : ∀ out : List Value, Srtd lt out → Stb lt out us → Q (.ref (s.heap.objs.size + 1)) { s with heap := sortedAll s.heap us out.toArray }) : wpAny (model prog w) A (call (.builtin "sorted") [.ref t]) Q E s := by
  apply Calls.call_function_entry kind_sorted plain_sorted entry_sorted (args_sorted1 _)
  unfold Builtin.«sorted»
  apply wpAny_bind (m := checkCount "sorted" 1 1 _)
  apply wpAny_pure
  apply wpAny_bind
  apply gathers ht hsz
  apply wpAny_bind
  refine wpAny_newList ?_ hsz
  generalize hp : ((s.heap.push (seqObj "list" #[] 0)).update s.heap.objs.size (Obj.mapSeq (· ++ us.toArray))) = hB
  have top : hB.objs.size = s.heap.objs.size + 1 := by
    rw [← hp, Heap.size_update, size_push']
  have here : (hB.push (seqObj "list" us.toArray 0)).get? (s.heap.objs.size + 1) = some (seqObj "list" us.toArray 0) := by
    rw [← top]; exact Heap.get?_push_size _ rfl
  show wpAny _ _ _ _ _ { s with heap := hB.push (seqObj "list" us.toArray 0) }
  rw [top]
  apply wpAny_bind
  apply wpAny_holding
  refine wpAny_call_entry slot_list_sort ⟨_, here, rfl⟩ entry_list_sort (list_sort_ord O here hsz (fun h2 => hS h2 _ _ here) fun out so st => ⟨_, rfl, ?_⟩) (args_list_sort _)
  apply wpAny_pure
  refine ⟨_, rfl, ?_⟩
  have := h out so st
  unfold sortedAll at this
  rw [hp] at this
  exact this
end

def rSortTI (K : PySem.W.Frag) : List V → Hp → VK → Prop := fun vs H Q => ∃ (a : Addr) (ns : List Int), vs = [V.ref a] ∧ SqT K H a (ns.map V.int) ∧
  ∀ (ms : List Int) (p : Addr), ms.Perm ns → ms.Pairwise (· ≤ ·) → H p = none → Q (.ref p) (upd H p (.lst (ms.map V.int)))
theorem cr_sortTI {X : Cx} : CallR X (.builtin "sorted") (rSortTI X.K) := by
  rintro pins s σ H vs us Q I r ⟨a, ns, rfl, hs, q⟩
  obtain ⟨its, rv, hl, hz⟩ := I.tuple hs
  rw [Vals.ref1 r]
  have hi := rv.ints
  apply sortedT swo_int hl (by rw [← rv.length]; exact hz) (fun h2 _ _ _ => ints_sortable hi h2)
  intro out h1 h2
  obtain ⟨k1, k2, k3⟩ := ints_out hi h1 h2
  obtain ⟨ep, at_⟩ := sortedAll_at s.heap its out.toArray
  refine ⟨.ref _, upd H (s.heap.objs.size + 1) (.lst ((out.map iv).map V.int)), I.laid (t' := s.toks) (fun _ _ => sortedAll_old) (Nat.le_succ _) ⟨?_, out, ep, vals_of_ints k1, at_⟩, rfl, q _ _ k2 k3 (I.hok.fresh (Nat.le_succ _))⟩
  rw [List.length_map] at hz ⊢
  rw [k2.length_eq]
  exact hz
end GA

set_option Elab.async false
set_option linter.all false
set_option maxRecDepth 100000
set_option maxHeartbeats 2000000
/-! subscripts, slices, conversions, questions, over data -/
namespace GA
open PySem PySem.Spec PyProof.Rows L2 GenW

section
variable {K : PySem.W.Frag}
theorem Reps.atI {F : Hp} {vs : List V} {ds : List D} {i : Int} {d : D} (r : Reps K F vs ds) (h : L2.atI ds i = some d) : ∃ v, L2.atI vs i = some v ∧ Rep K F v d := by
  unfold L2.atI at h ⊢
  rw [r.length]
  cases q : ixN ds.length i with
  | none => rw [q] at h; cases h
  | some j =>
    rw [q] at h
    simp only [Option.bind_some] at h ⊢
    exact r.get h
def ixD : D → D → Option D
  | .lst ds, .int i => L2.atI ds i
  | .tup _ ds, .int i => L2.atI ds i
  | _, _ => none
theorem od_ix : OpD K (fun x y H Q => rIxL K x y H Q ∨ rIxT K x y H Q) ixD := by
  intro F H x y a b d Q z ra rb hf q
  unfold ixD at hf
  split at hf
  · obtain ⟨p, vs, rfl, hp, r1⟩ := ra.lst_inv
    obtain rfl := rb.int_inv
    obtain ⟨v, h1, h2⟩ := r1.atI hf
    exact .inl ⟨p, vs, _, v, rfl, rfl, z.sqL hp, h1, q v F H (Grow.refl z) h2⟩
  · obtain ⟨p, vs, rfl, hp, r1⟩ := ra.tup_inv
    obtain rfl := rb.int_inv
    obtain ⟨v, h1, h2⟩ := r1.atI hf
    exact .inr ⟨p, vs, _, v, rfl, rfl, z.sqT hp, h1, q v F H (Grow.refl z) h2⟩
  · cases hf
theorem IxR.or2 {X : Cx} {r1 r2 : R2} (h1 : IxR X r1) (h2 : IxR X r2) : IxR X (fun x y H Q => r1 x y H Q ∨ r2 x y H Q) := by
  intro value slice pins s σ H x y v u Q I rx ry h hs
  rcases h with h | h
  · exact h1 value slice pins s σ H x y v u Q I rx ry h hs
  · exact h2 value slice pins s σ H x y v u Q I rx ry h hs
/-- xs[lo:hi] -/
def cutL {α : Type} (xs : List α) (lo hi : Option Int) : List α := (xs.drop (HT.sIx xs.length 0 lo)).take (HT.sIx xs.length xs.length hi - HT.sIx xs.length 0 lo)
theorem Reps.drop {F : Hp} : ∀ {vs : List V} {ds : List D} (n : Nat), Reps K F vs ds → Reps K F (vs.drop n) (ds.drop n)
  | _, _, 0, r => r
  | _, _, n + 1, .nil => .nil
  | _, _, n + 1, .cons _ b => b.drop n
theorem Reps.take {F : Hp} : ∀ {vs : List V} {ds : List D} (n : Nat), Reps K F vs ds → Reps K F (vs.take n) (ds.take n)
  | _, _, 0, _ => .nil
  | _, _, n + 1, .nil => .nil
  | _, _, n + 1, .cons a b => .cons a (b.take n)
theorem Reps.cut {F : Hp} {vs : List V} {ds : List D} (r : Reps K F vs ds) (lo hi : Option Int) : Reps K F (cutV vs lo hi) (cutL ds lo hi) := by
  unfold cutV cutL
  rw [r.length]
  exact (r.drop _).take _
theorem Reps.rev {F : Hp} : ∀ {vs : List V} {ds : List D}, Reps K F vs ds → Reps K F vs.reverse ds.reverse
  | _, _, .nil => .nil
  | _, _, .cons a b => by
    rw [List.reverse_cons, List.reverse_cons]
    exact b.rev.app (Reps.one a)
def slD (d : D) (lo hi : Option Int) : Option D := match d with
  | .lst ds => some (.lst (cutL ds lo hi))
  | .tup b ds => if HT.sIx ds.length 0 lo = 0 ∧ HT.sIx ds.length ds.length hi = ds.length then some (.tup b ds) else some (.tup false (cutL ds lo hi))
  | _ => none
/-- len, isinstance, int, sum, max -/
def lenD : List D → Option D
  | [.lst ds] => some (.int ds.length)
  | [.tup _ ds] => some (.int ds.length)
  | _ => none
theorem cd_len : CallD K (fun xs H Q => ∃ x n, xs = [x] ∧ LenV K x H n ∧ Q (.int n) H) lenD := by
  intro F H xs ds d Q z r hf q
  unfold lenD at hf
  split at hf
  · cases hf
    obtain ⟨v, rfl, r1⟩ := r.one_inv
    obtain ⟨p, vs, rfl, hp, r2⟩ := r1.lst_inv
    exact ⟨_, _, rfl, .inl ⟨vs, z.sqL hp, rfl⟩, q _ F H (Grow.refl z) (by rw [r2.length]; exact .int _)⟩
  · cases hf
    obtain ⟨v, rfl, r1⟩ := r.one_inv
    obtain ⟨p, vs, rfl, hp, r2⟩ := r1.tup_inv
    exact ⟨_, _, rfl, .inr ⟨vs, z.sqT hp, rfl⟩, q _ F H (Grow.refl z) (by rw [r2.length]; exact .int _)⟩
  · cases hf
def tyName : D → Option String
  | .non => some "NoneType"
  | .bl _ => some "bool"
  | .int _ => some "int"
  | .str _ => some "str"
  | .tup .. => some "tuple"
  | .lst _ => some "list"
  | .raw _ => none
  | .rg _ _ => none
theorem Rep.ty {F H : Hp} (z : Frz F H) {v : V} {d : D} {t : String} (r : Rep K F v d) (h : tyName d = some t) : TyX K H v (.type t) := by
  cases r with
  | non => cases h; exact .base .non
  | bl b => cases h; exact .base (.bl b)
  | int i => cases h; exact .base (.int i)
  | str x => cases h; exact .base (.str x)
  | lst a b => cases h; exact .base (.lst (z _ _ a).1)
  | tup a n b =>
    cases h
    rcases a with (a | ⟨o, a⟩) | ⟨o, its, n, hk, hc, _⟩
    · exact .base (.tup (z _ _ a).1)
    · exact .fTuple (z _ _ a).1
    · exact .kTuple hk hc
  | raw v => cases h
  | rg a => cases h
def isiD : List D → Option D
  | [d, .raw (.ty n)] => (tyName d).bind fun t => (kitB t n).map .bl
  | _ => none
theorem cd_isi : CallD K (rIsi K) isiD := by
  intro F H xs ds d Q z r hf q
  unfold isiD at hf
  split at hf
  · rename_i x n
    obtain ⟨v, w, rfl, r1, r2⟩ := r.two_inv
    cases r2
    cases ht : tyName x with
    | none => rw [ht] at hf; cases hf
    | some t =>
      rw [ht] at hf
      simp only [Option.bind_some] at hf
      cases hk : kitB t n with
      | none => rw [hk] at hf; cases hf
      | some b =>
        rw [hk] at hf
        cases hf
        exact ⟨v, .ty n, .type t, .type n, b, rfl, .ty n, r1.ty z ht, kit_ty hk, q _ F H (Grow.refl z) (.bl b)⟩
  · cases hf
def intD : List D → Option D
  | [.int i] => some (.int i)
  | _ => none
theorem cd_int : CallD K (fun xs H Q => (∃ i, xs = [.int i] ∧ Q (.int i) H) ∨ ∃ k, xs = [.bl k] ∧ Q (.int (if k then 1 else 0)) H) intD := by
  intro F H xs ds d Q z r hf q
  unfold intD at hf
  split at hf
  · cases hf
    obtain ⟨v, rfl, r1⟩ := r.one_inv
    obtain rfl := r1.int_inv
    exact .inl ⟨_, rfl, q _ F H (Grow.refl z) (.int _)⟩
  · cases hf
def sumD : List D → Option D
  | [.lst ds] => (intsD ds).map fun ns => .int ns.sum
  | _ => none
theorem cd_sum : CallD K (rSum K) sumD := by
  intro F H xs ds d Q z r hf q
  unfold sumD at hf
  split at hf
  · rename_i es
    obtain ⟨v, rfl, r1⟩ := r.one_inv
    obtain ⟨p, vs, rfl, hp, r2⟩ := r1.lst_inv
    cases hi : intsD es with
    | none => rw [hi] at hf; cases hf
    | some ns =>
      rw [hi] at hf
      cases hf
      have e := intsD_map hi
      subst e
      have := r2.ints
      subst this
      exact ⟨p, ns, rfl, z.sqL hp, q _ F H (Grow.refl z) (.int _)⟩
  · cases hf
def maxD : List D → Option D
  | [.lst ds] => (intsD ds).bind fun ns => ns.max?.map .int
  | _ => none
theorem cd_max : CallD K (rMax K) maxD := by
  intro F H xs ds d Q z r hf q
  unfold maxD at hf
  split at hf
  · rename_i es
    obtain ⟨v, rfl, r1⟩ := r.one_inv
    obtain ⟨p, vs, rfl, hp, r2⟩ := r1.lst_inv
    cases hi : intsD es with
    | none => rw [hi] at hf; cases hf
    | some ns =>
      rw [hi] at hf
      simp only [Option.bind_some] at hf
      cases hm : ns.max? with
      | none => rw [hm] at hf; cases hf
      | some m =>
        rw [hm] at hf
        cases hf
        have e := intsD_map hi
        subst e
        have := r2.ints
        subst this
        have hm' := List.max?_eq_some_iff.mp hm
        refine ⟨p, ns, rfl, z.sqL hp, List.length_pos_of_mem hm'.1, fun k hk hall => ?_⟩
        have : k = m := Int.le_antisymm (hm'.2 k hk) (hall m hm'.1)
        subst this
        exact q _ F H (Grow.refl z) (.int _)
  · cases hf
/-- sorted -/
def sortI (ns : List Int) : List Int := ns.mergeSort fun a b => decide (a ≤ b)
theorem sortI_perm (ns : List Int) : (sortI ns).Perm ns := List.mergeSort_perm ns _
theorem sortI_sorted (ns : List Int) : (sortI ns).Pairwise (· ≤ ·) := by
  have := List.pairwise_mergeSort (le := fun a b : Int => decide (a ≤ b)) (fun a b c h1 h2 => by simp at *; omega) (fun a b => by simp; omega) ns
  exact this.imp fun h => of_decide_eq_true h
theorem sorted_one {ms ns : List Int} (h : ms.Perm ns) (hs : ms.Pairwise (· ≤ ·)) : ms = sortI ns :=
  List.Perm.eq_of_pairwise (fun a b _ _ h1 h2 => Int.le_antisymm h1 h2) hs (sortI_sorted ns) (h.trans (sortI_perm ns).symm)
def sortD : List D → Option (List D)
  | [d] => (asSeq d).bind fun ds => (intsD ds).bind fun ns => if ns.length ≤ sizeLine then some ((sortI ns).map .int) else none
  | _ => none
theorem cl_sort : CallL K (fun xs H Q => rSortedI K xs H Q ∨ rSortTI K xs H Q) sortD := by
  intro F H xs ds es Q z r hf q
  unfold sortD at hf
  split at hf
  · rename_i x
    obtain ⟨v, rfl, r1⟩ := r.one_inv
    cases hs : asSeq x with
    | none => rw [hs] at hf; cases hf
    | some ds =>
      rw [hs] at hf
      simp only [Option.bind_some] at hf
      cases hi : intsD ds with
      | none => rw [hi] at hf; cases hf
      | some ns =>
        rw [hi] at hf
        simp only [Option.bind_some] at hf
        split at hf
        · rename_i hl
          cases hf
          have e := intsD_map hi
          have fin : ∀ (ms : List Int) (p : Addr), ms.Perm ns → ms.Pairwise (· ≤ ·) → H p = none → Q (.ref p) (upd H p (.lst (ms.map V.int))) := fun ms p h1 h2 hp => by
            rw [sorted_one h1 h2]
            refine q p _ F H (Grow.refl z) hp (Reps.of_ints _) ?_
            rw [List.length_map, (sortI_perm ns).length_eq]; exact hl
          cases x with
          | lst es =>
            cases hs
            subst e
            obtain ⟨p, vs, rfl, hp, r2⟩ := r1.lst_inv
            have := r2.ints
            subst this
            exact .inl ⟨p, ns, rfl, z.sqL hp, fin⟩
          | tup b es =>
            cases hs
            subst e
            obtain ⟨p, vs, rfl, hp, r2⟩ := r1.tup_inv
            have := r2.ints
            subst this
            exact .inr ⟨p, ns, rfl, z.sqT hp, fin⟩
          | _ => cases hs
        · cases hf
  · cases hf
/-- list(x) -/
def listD : List D → Option (List D)
  | [d] => (asSeq d).bind fun ds => if ds.length ≤ sizeLine then some ds else none
  | _ => none
theorem cl_list : CallL K (fun xs H Q => ∃ p ys, xs = [.ref p] ∧ (SqL K H p ys ∨ SqT K H p ys) ∧ ∀ l, H l = none → Q (.ref l) (upd H l (.lst ys))) listD := by
  intro F H xs ds es Q z r hf q
  unfold listD at hf
  split at hf
  · rename_i x
    obtain ⟨v, rfl, r1⟩ := r.one_inv
    cases hs : asSeq x with
    | none => rw [hs] at hf; cases hf
    | some ds =>
      rw [hs] at hf
      simp only [Option.bind_some] at hf
      split at hf
      · rename_i hl
        cases hf
        cases x with
        | lst es =>
          cases hs
          obtain ⟨p, vs, rfl, hp, r2⟩ := r1.lst_inv
          exact ⟨p, vs, rfl, .inl (z.sqL hp), fun l h => q l vs F H (Grow.refl z) h r2 (by rw [r2.length]; exact hl)⟩
        | tup b es =>
          cases hs
          obtain ⟨p, vs, rfl, hp, r2⟩ := r1.tup_inv
          exact ⟨p, vs, rfl, .inr (z.sqT hp), fun l h => q l vs F H (Grow.refl z) h r2 (by rw [r2.length]; exact hl)⟩
        | _ => cases hs
      · cases hf
  · cases hf
/-- tuple(x): known not to have a dict when it was a list -/
def rTupF (K : PySem.W.Frag) : List V → Hp → VK → Prop := fun xs H Q => ∃ p ys, xs = [.ref p] ∧ ((SqL K H p ys ∧ ∀ l o, H l = none → o.dict = none → Q (.ref l) (upd H l (.frz o (.tup ys)))) ∨ (SqT K H p ys ∧ Q (.ref p) H))
theorem cr_tupF {X : Cx} : CallR X (.type "tuple") (rTupF X.K) := by
  rintro pins s σ H xs us Q I r ⟨p, ys, rfl, h⟩
  rw [Vals.ref1 r]
  rcases h with ⟨hq, q⟩ | ⟨hq, q⟩
  · obtain ⟨its, rv, pl, hz⟩ := I.list hq
    apply call_tuple_list pl.isList (hsz := by rw [List.size_toArray, ← rv.length]; exact hz)
    intro h' kp
    have I1 : Inv X pins σ H { s with heap := h' } := I.kept (t' := s.toks) kp
    have at_ := Heap.get?_push_size h' (o := { cls := .type "tuple", data := .seq its.toArray }) rfl
    have I2 := I1.laid (t' := s.toks) (a := h'.objs.size) (o := .frz { cls := .type "tuple", data := .seq its.toArray } (.tup ys)) (fun b u e => Heap.get?_push_of_some { cls := .type "tuple", data := .seq its.toArray } e) (Nat.le_refl _)
      ⟨at_, hz, its, rv, IsTup.new _ _⟩
    exact ⟨.ref h'.objs.size, _, I2, rfl, q _ _ (I1.hok.fresh (Nat.le_refl _)) rfl⟩
  · obtain ⟨its, rv, pl, hz⟩ := I.tuple hq
    exact call_tuple_same pl ⟨.ref p, H, I, rfl, q⟩
def tupD : List D → Option D
  | [.lst ds] => some (.tup true ds)
  | [.tup b ds] => some (.tup b ds)
  | _ => none
theorem cd_tup : CallD K (rTupF K) tupD := by
  intro F H xs ds d Q z r hf q
  unfold tupD at hf
  split at hf
  · cases hf
    obtain ⟨v, rfl, r1⟩ := r.one_inv
    obtain ⟨p, vs, rfl, hp, r2⟩ := r1.lst_inv
    refine ⟨p, vs, rfl, .inl ⟨z.sqL hp, fun l o hl ho => ?_⟩⟩
    have g := Grow.new (o := .frz o (.tup vs)) z hl fun ps w => by cases w
    exact q _ _ _ g (.tup (.inl (.inr ⟨o, upd_same⟩)) (fun _ => .inl ⟨o, _, upd_same, ho⟩) (r2.ext (g.ext z)))
  · cases hf
    obtain ⟨v, rfl, r1⟩ := r.one_inv
    have r1' := r1
    obtain ⟨p, vs, rfl, hp, r2⟩ := r1.tup_inv
    exact ⟨p, vs, rfl, .inr ⟨z.sqT hp, q _ F H (Grow.refl z) r1'⟩⟩
  · cases hf
end

section
variable {X : Cx} {T : List Addr} {e ea eb : Expr} {ma mb : M D} {pos p p2 : Pos} {ml : M (List D)} {x : Str}
theorem pm_ix (a : PM T X ea ma) (b : PM T X eb mb) (hs : PlainIx eb := by exact fun _ _ => rfl) : PM T X (.Subscript ea eb pos) (op2M ixD ma mb) := by
  obtain ⟨ta, pa, ha⟩ := a.ex
  obtain ⟨tb, pb, hb⟩ := b.ex
  exact ⟨_, pe_ix (IxR.or2 ix_list ix_tup) pa pb hs, fun dk dc F0 H0 F H σ st st' d Q c hm k => op2_core od_ix ha hb c hm k⟩
/-- an end of a slice -/
structure PMO (T : List Addr) (X : Cx) (e : Option Expr) (m : M (Option Int)) : Prop where
  ex : ∃ t : TO, PO X e t ∧ ∀ (dk dc : Addr) (F0 H0 F H : Hp) (σ : L2.St) (st st' : Sta) (o : Option Int) (Q : Option Int → Hp → Prop), Cfg X.K T dk dc F0 H0 F H σ st → m st = some (o, st') →
    (∀ F' H', Ext F F' → Cfg X.K T dk dc F0 H0 F' H' σ st' → Q o H') → t σ H Q
theorem pmo_none : PMO T X none (pureM none) := ⟨_, po_none, fun dk dc F0 H0 F H σ st st' o Q c hm q => by
  obtain ⟨rfl, rfl⟩ := pureM_some hm
  exact q F H (Ext.refl F) c⟩
theorem pmo_some (h : PM T X e ma) : PMO T X (some e) (bindM ma fun d => liftM ((asI d).map some)) := by
  obtain ⟨t, pt, h⟩ := h.ex
  refine ⟨_, po_some pt, fun dk dc F0 H0 F H σ st st' o Q c hm q => ?_⟩
  obtain ⟨d, s2, hm1, hm2⟩ := bindM_some hm
  obtain ⟨hd, rfl⟩ := liftM_some hm2
  refine h dk dc F0 H0 F H σ st _ d _ c hm1 fun v F1 H1 e1 c1 r1 => ?_
  cases d with
  | int i =>
    cases hd
    obtain rfl := r1.int_inv
    exact ⟨i, rfl, q F1 H1 e1 c1⟩
  | _ => cases hd
theorem pm_sl {lo hi : Option Expr} {ml mh : M (Option Int)} (a : PM T X ea ma) (l : PMO T X lo ml) (h : PMO T X hi mh) : PM T X (.Subscript ea (.Slice lo hi none p2) pos) (bindM ma fun d => bindM ml fun i => bindM mh fun j => liftM (slD d i j)) := by
  obtain ⟨ta, pa, ha⟩ := a.ex
  obtain ⟨tl, pl, hl⟩ := l.ex
  obtain ⟨th, ph, hh⟩ := h.ex
  refine ⟨_, pe_slice (SlR.or sl_list sl_tupA) pa pl ph, fun dk dc F0 H0 F H σ st st' d Q c hm q => ?_⟩
  obtain ⟨d0, s1, hm1, hm⟩ := bindM_some hm
  obtain ⟨i, s2, hm2, hm⟩ := bindM_some hm
  obtain ⟨j, s3, hm3, hm⟩ := bindM_some hm
  obtain ⟨hd, rfl⟩ := liftM_some hm
  refine ha dk dc F0 H0 F H σ st s1 d0 _ c hm1 fun v F1 H1 e1 c1 r1 => hl dk dc F0 H0 F1 H1 σ s1 s2 i _ c1 hm2 fun F2 H2 e2 c2 => hh dk dc F0 H0 F2 H2 σ s2 _ j _ c2 hm3 fun F3 H3 e3 c3 => ?_
  have r3 := (r1.ext e2).ext e3
  have ee := (e1.trans e2).trans e3
  unfold slD at hd
  split at hd
  · cases hd
    obtain ⟨p, vs, rfl, hp, r4⟩ := r3.lst_inv
    refine .inl ⟨p, vs, rfl, c3.frz.sqL hp, fun l hln => ?_⟩
    obtain ⟨F4, g, r5⟩ := new_lst (K := X.K) c3.frz hln (r4.cut i j)
    exact q _ _ _ (ee.trans (g.ext c3.frz)) (c3.grow g) r5
  · have r3' := r3
    obtain ⟨p, vs, rfl, hp, r4⟩ := r3.tup_inv
    have hlen := r4.length
    refine .inr ⟨p, vs, rfl, c3.frz.sqT hp, fun hw => ?_, fun hw l hln => ?_⟩
    · rw [hlen] at hw
      rw [if_pos hw] at hd
      cases hd
      exact q _ _ _ ee c3 r3'
    · rw [hlen] at hw
      rw [if_neg hw] at hd
      cases hd
      obtain ⟨F4, g, r5⟩ := new_tup (K := X.K) c3.frz hln (r4.cut i j)
      exact q _ _ _ (ee.trans (g.ext c3.frz)) (c3.grow g) r5
  · cases hd
/-- xs[::-1] of a list -/
theorem pml_rev {k : Nat} {p1 p3 : Pos} (a : PM T X ea ma) : PML T X (.Subscript ea (.Slice none none (some (.UnaryOp .USub (.Constant (.int 1) k p1) p2)) p3) pos) (bindM ma fun d => liftM (match d with | .lst ds => if ds.length ≤ sizeLine then some ds.reverse else none | _ => none)) := by
  obtain ⟨ta, pa, ha⟩ := a.ex
  refine ⟨_, pe_revL pa, fun dk dc F0 H0 F H σ st st' ds Q c hm q => ?_⟩
  obtain ⟨d0, s1, hm1, hm2⟩ := bindM_some hm
  obtain ⟨hd, rfl⟩ := liftM_some hm2
  refine ha dk dc F0 H0 F H σ st _ d0 _ c hm1 fun v F1 H1 e1 c1 r1 => ?_
  split at hd
  · split at hd
    · rename_i hl
      cases hd
      obtain ⟨p, vs, rfl, hp, r2⟩ := r1.lst_inv
      exact ⟨p, vs, rfl, c1.frz.sqL hp, fun l hln => q l _ F1 H1 e1 c1 hln r2.rev (by rw [List.length_reverse, r2.length]; exact hl)⟩
    · cases hd
  · cases hd
/-- list(range(..)), tuple(range(..)) -/
theorem Reps.rng {K : PySem.W.Frag} {F : Hp} {a b : Int} : Reps K F (rgV a b) (rng a (b - a).toNat) := by
  unfold rgV GA.rng
  generalize List.range (b - a).toNat = l
  induction l with
  | nil => exact .nil
  | cons i l ih => exact .cons (.int _) ih
instance {a b : Int} : Decidable (RgOk a b) := by unfold RgOk; exact inferInstance
def rgD (d : D) : Option (List D) := (asI d).bind fun n => if RgOk 0 n then some (rng 0 (n - 0).toNat) else none
theorem rgD_some {d : D} {ds : List D} (h : rgD d = some ds) : ∃ n, d = .int n ∧ RgOk 0 n ∧ ds = rng 0 (n - 0).toNat := by
  unfold rgD at h
  cases d with
  | int n =>
    have h : (if RgOk 0 n then some (rng 0 (n - 0).toNat) else none) = some ds := h
    split at h
    · rename_i hr
      cases h
      exact ⟨n, rfl, hr, rfl⟩
    · cases h
  | _ => cases h
theorem pml_listRg {pos2 : Pos} (hc : X.calm = true) (a : PM T X e ma) (hg : Gl X "list") (hm : X.mg "list" = none) (hg2 : Gl X "range") (hm2 : X.mg "range" = none) (na : starEach [e] X.env = (false, eval e X.env) :: starEach [] X.env := by rfl)
    (nb : starEach [.Call (.Name "range" p2) [e] [] pos2] X.env = (false, eval (.Call (.Name "range" p2) [e] [] pos2) X.env) :: starEach [] X.env := by rfl) : PML T X (.Call (.Name "list" p) [.Call (.Name "range" p2) [e] [] pos2] [] pos) (bindM ma fun d => liftM (rgD d)) := by
  obtain ⟨ta, pa, ha⟩ := a.ex
  refine ⟨_, pe_listRg hc hg hm (prg_1 hg2 hm2 pa na) nb, fun dk dc F0 H0 F H σ st st' ds Q c hm q => ?_⟩
  obtain ⟨d0, s1, hm1, hm2⟩ := bindM_some hm
  obtain ⟨hd, rfl⟩ := liftM_some hm2
  refine ha dk dc F0 H0 F H σ st _ d0 _ c hm1 fun v F1 H1 e1 c1 r1 => ?_
  obtain ⟨n, rfl, hr, rfl⟩ := rgD_some hd
  obtain rfl := r1.int_inv
  refine ⟨n, rfl, hr, fun l hln => q l _ F1 H1 e1 c1 hln Reps.rng ?_⟩
  rw [rgV_length]
  exact hr.2.2.2.2
theorem pm_tupRg {pos2 : Pos} (hc : X.calm = true) (a : PM T X e ma) (hg : Gl X "tuple") (hm : X.mg "tuple" = none) (hg2 : Gl X "range") (hm2 : X.mg "range" = none) (na : starEach [e] X.env = (false, eval e X.env) :: starEach [] X.env := by rfl)
    (nb : starEach [.Call (.Name "range" p2) [e] [] pos2] X.env = (false, eval (.Call (.Name "range" p2) [e] [] pos2) X.env) :: starEach [] X.env := by rfl) : PM T X (.Call (.Name "tuple" p) [.Call (.Name "range" p2) [e] [] pos2] [] pos) (bindM ma fun d => liftM ((rgD d).map (.tup false))) := by
  obtain ⟨ta, pa, ha⟩ := a.ex
  refine ⟨_, pe_tupRg hc hg hm (prg_1 hg2 hm2 pa na) nb, fun dk dc F0 H0 F H σ st st' d Q c hm q => ?_⟩
  obtain ⟨d0, s1, hm1, hm2⟩ := bindM_some hm
  obtain ⟨hd, rfl⟩ := liftM_some hm2
  refine ha dk dc F0 H0 F H σ st _ d0 _ c hm1 fun v F1 H1 e1 c1 r1 => ?_
  cases hr0 : rgD d0 with
  | none => rw [hr0] at hd; cases hd
  | some ds =>
    rw [hr0] at hd
    cases hd
    obtain ⟨n, rfl, hr, rfl⟩ := rgD_some hr0
    obtain rfl := r1.int_inv
    refine ⟨n, rfl, hr, fun l hln => ?_⟩
    obtain ⟨F4, g, r5⟩ := new_tup (K := X.K) c1.frz hln (Reps.rng (a := 0) (b := n))
    exact q _ _ _ (e1.trans (g.ext c1.frz)) (c1.grow g) r5
theorem pm_neg (a : PM T X ea ma) : PM T X (.UnaryOp .USub ea pos) (bindM ma fun d => liftM ((asI d).map fun i => .int (-i))) := by
  obtain ⟨ta, pa, ha⟩ := a.ex
  refine ⟨_, pe_un un_neg pa, fun dk dc F0 H0 F H σ st st' d Q c hm q => ?_⟩
  obtain ⟨d0, s1, hm1, hm2⟩ := bindM_some hm
  obtain ⟨hd, rfl⟩ := liftM_some hm2
  refine ha dk dc F0 H0 F H σ st _ d0 _ c hm1 fun v F1 H1 e1 c1 r1 => ?_
  cases d0 with
  | int i =>
    cases hd
    obtain rfl := r1.int_inv
    exact ⟨i, rfl, q _ F1 H1 e1 c1 (.int _)⟩
  | _ => cases hd
end
end GA

set_option Elab.async false
set_option linter.all false
set_option maxRecDepth 100000
set_option maxHeartbeats 2000000
/-! a tuple turned round by a slice; tuple.count -/
namespace GA
open PySem PySem.Spec PyProof.Rows L2 GenW HT

theorem adjust_back (n : Nat) : Builtin.Slice.sliceAdjust none none (-1) (n : Int) = ((n : Int) - 1, -1) := by
  unfold Builtin.Slice.sliceAdjust
  simp only [show ((-1 : Int) < 0) from by decide, if_true]
theorem places_back (n : Nat) : Builtin.Slice.slicePlaces ((n : Int) - 1) (-1) (-1) = n := by
  unfold Builtin.Slice.slicePlaces
  simp only [show ¬ ((-1 : Int) > 0) from by decide, if_false]
  by_cases h : n = 0
  · subst h; simp
  · simp only [show ((n : Int) - 1 > -1) from by omega, if_true]
    have : ((n : Int) - 1 - -1 - -1 - 1) / (- -1) = (n : Int) := by
      rw [show (- -1 : Int) = 1 by decide, Int.ediv_one]
      omega
    simp [this]
theorem pick_back (xs : Array Value) : ((List.range xs.size).filterMap fun (k : Nat) => xs[(((xs.size : Nat) : Int) - 1 + (k : Int) * -1).toNat]?).toArray = xs.toList.reverse.toArray := by
  congr 1
  have h : ∀ (l : List Nat), (∀ k ∈ l, k < xs.size) → (l.filterMap fun (k : Nat) => xs[(((xs.size : Nat) : Int) - 1 + (k : Int) * -1).toNat]?) = l.map fun k => xs.toList.reverse[k]?.getD .none := by
    intro l hl
    induction l with
    | nil => rfl
    | cons a l ih =>
      have ha := hl a List.mem_cons_self
      have e : (((xs.size : Nat) : Int) - 1 + (a : Int) * -1).toNat = xs.size - 1 - a := by omega
      have hb : xs.size - 1 - a < xs.size := by omega
      have e2 : xs[xs.size - 1 - a]? = some xs[xs.size - 1 - a] := Array.getElem?_eq_getElem hb
      have e3 : xs.toList.reverse[a]? = some xs[xs.size - 1 - a] := by
        rw [List.getElem?_reverse (by rw [Array.length_toList]; exact ha), Array.length_toList]
        simpa using e2
      rw [List.filterMap_cons, List.map_cons, e, e2, e3, ih fun k hk => hl k (List.mem_cons_of_mem _ hk)]
      rfl
  rw [h _ fun k hk => List.mem_range.mp hk]
  apply List.ext_getElem?
  intro i
  by_cases hi : i < xs.size
  · rw [List.getElem?_map, List.getElem?_range hi]
    have : i < xs.toList.reverse.length := by simpa using hi
    simp [hi]
  · rw [List.getElem?_eq_none (by simpa using hi), List.getElem?_eq_none (by simpa using hi)]

section
variable {prog : Program} {w : World} {A : Around} {E : Value → Shared → Prop} {s : Shared}
theorem turned_tup {t sl : Addr} {items : Array Value} {tk : Tok} {Q : Value → Shared → Prop} (ht : IsTup s.heap t items) (hs : s.heap.IsSliceOf sl .none .none (.int (-1) tk)) (hsz : items.size ≤ sizeLine)
    (h : Q (.ref s.heap.objs.size) { s with heap := s.heap.push { cls := .type "tuple", data := .seq items.toList.reverse.toArray } }) : wpAny (model prog w) A (getItem (.ref t) (.ref sl)) Q E s := by
  have fits : sizeOk (.seq items.toList.reverse.toArray) := by
    show items.toList.reverse.toArray.size ≤ sizeLine
    simpa using hsz
  obtain ⟨so, hso, hsc, hsd⟩ := id hs
  have tySl : s.TypeIs (.ref sl) "slice" := ⟨so, hso, hsc⟩
  unfold getItem
  try with_reducible refine wpAny_holding ?_
  first | refine wpAny_bind (wpAny_pure ?_) | skip
  apply wpAny_bind
  refine wpAny_sequenceKey ht.typeIs (by decide) ?_
  apply wpAny_bind
  refine wpAny_callSpecial?_slot (name := Str.ofString "__getitem__") ht.typeIs slot_tuple_getitem (wpAny_call_entry slot_tuple_getitem ht.typeIs entry_tuple_getitem ?_ (args_tuple_getitem _ _))
  show wpAny _ _ (Builtin.Tuple.tupleItemsOf (.ref t) >>= _) _ _ s
  apply wpAny_bind
  refine tupleItemsOf_ ht ?_
  apply wpAny_bind
  refine wpAny_typeOf tySl ?_
  rw [if_pos (by decide)]
  apply wpAny_bind
  · unfold Builtin.Slice.sliceApplied Builtin.Slice.sliceFields
    refine wpAny_bind (wpAny_bind (wpAny_field hso hsd (x := .none) rfl (wpAny_bind (wpAny_field hso hsd (x := .none) rfl (wpAny_bind (wpAny_field hso hsd (x := .int (-1) tk) rfl (wpAny_pure ?_)))))))
    apply wpAny_bind
    refine slicePart_ (.int (-1) tk) ?_
    show wpAny _ _ (if ((-1 : Int) == 0) = true then _ else _) _ _ s
    rw [if_neg (by decide)]
    refine wpAny_bind (slicePart_ .none (wpAny_bind (slicePart_ .none (wpAny_bind (wpAny_pure ?_)))))
    show wpAny _ _ (match Builtin.Slice.sliceAdjust none none (-1) ((items.size : Nat) : Int) with | (lo, hi) => pure (lo, (-1 : Int), Builtin.Slice.slicePlaces lo hi (-1))) _ _ s
    rw [adjust_back]
    show wpAny _ _ (pure (((items.size : Nat) : Int) - 1, (-1 : Int), Builtin.Slice.slicePlaces (((items.size : Nat) : Int) - 1) (-1) (-1))) _ _ s
    rw [places_back]
    apply wpAny_pure
    have no : ¬ (((((items.size : Nat) : Int) - 1) == 0 && (-1 : Int) == 1 && items.size == items.size) = true) := by
      rw [show ((-1 : Int) == 1) = false from by decide, Bool.and_false, Bool.false_and]
      exact Bool.false_ne_true
    show wpAny _ _ (if ((((items.size : Nat) : Int) - 1) == 0 && (-1 : Int) == 1 && items.size == items.size) = true then _ else _) _ _ s
    rw [if_neg no, pick_back]
    first
      | exact wpAny_bind (m := Builtin.Tuple.tupleExact _) (wpAny_newObj_type (wpAny_pure ⟨_, rfl, wpAny_pure h⟩) fits)
      | exact wpAny_bind (m := Builtin.Tuple.tupleExact _) (wpAny_newObj_type (wpAny_bind (wpAny_pure (wpAny_pure ⟨_, rfl, wpAny_pure h⟩))) fits)
      | exact wpAny_bind (wpAny_bind (m := Builtin.Tuple.tupleExact _) (wpAny_newObj_type (wpAny_pure (wpAny_pure ⟨_, rfl, wpAny_pure h⟩)) fits))
      | exact wpAny_bind (wpAny_bind (m := Builtin.Tuple.tupleExact _) (wpAny_newObj_type (wpAny_pure ⟨_, rfl, wpAny_pure h⟩) fits))
end
def tTurnT (K : PySem.W.Frag) (te : TE) : TE := fun σ H Q => te σ H fun x H1 => ∃ a xs, x = .ref a ∧ SqT K H1 a xs ∧ ∀ p, H1 p = none → Q (.ref p) (upd H1 p (.tup xs.reverse))
section
variable {X : Cx} {T : List Addr} {e ea : Expr} {ma : M D} {p2 pos : Pos}
theorem pe_turnT {te : TE} {k : Nat} {p1 p3 : Pos} (he : PE X e te) : PE X (.Subscript e (.Slice none none (some (.UnaryOp .USub (.Constant (.int 1) k p1) p2)) p3) pos) (tTurnT X.K te) := by
  constructor
  intro pins s σ H Q I h
  apply Subscript_
  refine thn (he.run pins s σ H _ I h) ?_
  rintro v s1 ⟨x, H1, I1, r1, a, xs, rfl, hx, q⟩
  cases r1
  have step : PO X (some (.UnaryOp .USub (.Constant (.int 1) k p1) p2)) (tPart (tUn (rU fun i => .int (-i)) (tC (.int 1)))) := po_some (pe_un un_neg pe_int)
  apply wpAny_Slice
  refine thn (po_none.run pins s1 σ H1 (fun o H2 => o = none ∧ H2 = H1) I1 ⟨rfl, rfl⟩) ?_
  rintro vl s2 ⟨l, H2, I2, pl, rfl, rfl⟩
  refine thn (po_none.run pins s2 σ H2 (fun o H3 => o = none ∧ H3 = H2) I2 ⟨rfl, rfl⟩) ?_
  rintro vu s3 ⟨u, H3, I3, pu, rfl, rfl⟩
  refine thn (step.run pins s3 σ H3 (fun o H4 => o = some (-1) ∧ H4 = H3) I3 ⟨1, rfl, -1, rfl, rfl, rfl⟩) ?_
  rintro vs s4 ⟨o, H4, I4, ps, rfl, rfl⟩
  cases pl
  cases pu
  cases ps with
  | int i tk =>
  have I5 := I4.kept (t' := s4.toks) (fun b ob z => Heap.get?_push_of_some { cls := .type "slice", data := .fields #[.none, .none, .int (-1) tk] } z)
  obtain ⟨its, r, ht, hz⟩ := I5.tuple hx
  have hl := r.length
  show wpAny (model X.prog X.w) X.A (subscriptTail e (.Slice none none (some (.UnaryOp .USub (.Constant (.int 1) k p1) p2)) p3) (.ref a) (.ref s4.heap.objs.size)) (EP X pins σ Q) X.xe { s4 with heap := s4.heap.push { cls := .type "slice", data := .fields #[.none, .none, .int (-1) tk] } }
  refine tail_any (ops := [.ref a, .ref s4.heap.objs.size]) ht.typeIs slot_tuple_getitem.lookup ?_ (by with_unfolding_all rfl)
  refine turned_tup ht (Heap.IsSliceOf.new ..) (by rw [List.size_toArray, ← hl]; exact hz) ?_
  refine ⟨.ref _, _, I5.laid (t' := s4.toks) (o := .tup xs.reverse) (fun b ob z => Heap.get?_push_of_some _ z) (Nat.le_refl _) ?_, rfl, q _ (I5.hok.fresh (Nat.le_refl _))⟩
  exact ⟨by rw [List.length_reverse]; exact hz, _, r.reverse, IsTup.new _ _⟩
theorem pm_turnT {k : Nat} {p1 p3 : Pos} (a : PM T X ea ma) : PM T X (.Subscript ea (.Slice none none (some (.UnaryOp .USub (.Constant (.int 1) k p1) p2)) p3) pos) (bindM ma fun d => liftM (match d with | .tup _ ds => some (.tup false ds.reverse) | _ => none)) := by
  obtain ⟨ta, pa, ha⟩ := a.ex
  refine ⟨_, pe_turnT pa, fun dk dc F0 H0 F H σ st st' ds Q c hm q => ?_⟩
  obtain ⟨d0, s1, hm1, hm2⟩ := bindM_some hm
  obtain ⟨hd, rfl⟩ := liftM_some hm2
  refine ha dk dc F0 H0 F H σ st _ d0 _ c hm1 fun v F1 H1 e1 c1 r1 => ?_
  split at hd
  · cases hd
    obtain ⟨p, vs, rfl, hp, r2⟩ := r1.tup_inv
    refine ⟨p, vs, rfl, c1.frz.sqT hp, fun l hln => ?_⟩
    obtain ⟨F4, g, r5⟩ := new_tup (K := X.K) c1.frz hln r2.rev
    exact q _ _ _ (e1.trans (g.ext c1.frz)) (c1.grow g) r5
  · cases hd

/-! ### count -/
def tyPl (K : PySem.W.Frag) (x : V) (H : Hp) : Prop := ∃ p xs, x = .ref p ∧ SqT K H p xs ∧ Plain K H p
theorem ty_pl : TyOk X "tuple" (tyPl X.K) := by
  rintro pins σ H s x v I r ⟨p, xs, rfl, hs, hp⟩
  cases r
  obtain ⟨its, rv, pl, hz⟩ := I.tuple hs
  refine ⟨pl.typeIs, fun b e => ?_⟩
  cases e
  rcases hp with ⟨o, u, h1, h2⟩ | ⟨o, h1, h2⟩
  · exact ⟨o, (I.hok _ _ h1).1, h2⟩
  · exact ⟨o, I.kIn _ _ h1, h2⟩
def rCntT (K : PySem.W.Frag) : V → List V → Hp → VK → Prop := fun x xs H Q => ∃ (p : Addr) (ns : List Int) (k : Int), x = .ref p ∧ xs = [.int k] ∧ SqT K H p (ns.map V.int) ∧ Q (.int (ns.count k : Nat)) H
theorem mt_tcount : MtR X "tuple.count" (rCntT X.K) := by
  rintro pins s σ H x xs v us Q I rx rxs ⟨p, ns, k, rfl, rfl, hs, q⟩
  cases rx
  obtain ⟨u, rfl, t, rfl⟩ := rxs.one
  obtain ⟨its, rv, ⟨⟨cl, dd, da, sl⟩, ho, hc, n, hd⟩, hz⟩ := I.tuple hs
  simp only at hc hd
  subst hc hd
  have hi := ints_of_vals rv
  refine call_meets PySem.F.slot_tuple_count ⟨_, ho, rfl⟩ PySem.F.entry_tuple_count (PySem.F.args_tuple_count_2 _ _)
    (SeqAt.tuple_countAt p its.toArray n dd sl (.int k t) (eqk k)) ⟨ho, fun y hy => (eqk_gives hi y (by simpa using hy)).at _ _, ?_⟩
  have ec := eqk_count (k := k) hi
  refine ⟨.int (ns.count k : Nat), H, I.tok _, ⟨s.toks, ?_⟩, q⟩
  show Value.int ((its.toArray.toList.countP (eqk k) : Nat) : Int) s.toks = _
  rw [show its.toArray.toList = its from rfl, ec]
def cntD (d : D) : List D → Option D
  | [.int k] => match d with
    | .tup true ds => (intsD ds).map fun ns => .int (ns.count k : Nat)
    | _ => none
  | _ => none
theorem pm_count {apos cpos : Pos} {es : List Expr} {ml : M (List D)} (a : PM T X ea ma) (h : PMA T X (e :: es) ml)
    (hbase : attributeBase ea "count" X.env (eval ea X.env) = eval ea X.env := by rfl)
    (hfew : ((backTo cpos (starEach (e :: es) X.env)).all (fun x => !x.1) && (backToKw cpos (keywordEach [] X.env)).all (fun x => x.1.isSome)
      && decide ((e :: es).length + ([] : List Keyword).length + (if ([] : List Keyword).isEmpty then 0 else 1) < 30)) = true := by rfl)
    (hline : (apos.endLine == cpos.line) = true := by rfl) (hs : starEach (e :: es) X.env = (false, eval e X.env) :: starEach es X.env := by rfl) (hplain : (backTo cpos (starEach es X.env)).any (·.1) = false := by rfl) :
    PM T X (.Call (.Attribute ea "count" apos) (e :: es) [] cpos) (bindM ma fun d => bindM ml fun l => liftM (cntD d l)) := by
  obtain ⟨ta, pa, ha⟩ := a.ex
  obtain ⟨tb, pb, hb⟩ := h.ex
  refine ⟨_, pe_mG ty_pl PySem.F.plainAttrs_tuple PySem.F.slot_tuple_count PySem.F.type_tuple_count mt_tcount pa pb hbase hfew hline hs hplain, fun dk dc F0 H0 F H σ st st' d Q c hm q => ?_⟩
  obtain ⟨d0, s1, hm1, hm⟩ := bindM_some hm
  obtain ⟨l, s2, hm2, hm3⟩ := bindM_some hm
  obtain ⟨hd, rfl⟩ := liftM_some hm3
  refine ha dk dc F0 H0 F H σ st s1 d0 _ c hm1 fun v F1 H1 e1 c1 r1 => ?_
  unfold cntD at hd
  split at hd
  · rename_i k
    split at hd
    · rename_i ds
      cases hi : intsD ds with
      | none => rw [hi] at hd; cases hd
      | some ns =>
        rw [hi] at hd
        cases hd
        have ei := intsD_map hi
        subst ei
        cases r1 with
        | tup h1 h2 h3 =>
          have := h3.ints
          subst this
          rename_i p
          refine ⟨⟨p, _, rfl, c1.frz.sqT h1, ?_⟩, hb dk dc F0 H0 F1 H1 σ s1 _ _ _ c1 hm2 fun vs F2 H2 e2 c2 r2 => ?_⟩
          · exact (h2 rfl).ext fun a o z => (c1.frz a o z).1
          · obtain ⟨w, rfl, r3⟩ := r2.one_inv
            obtain rfl := r3.int_inv
            exact ⟨p, ns, k, rfl, rfl, c2.frz.sqT (e2.sqT h1), q _ F2 H2 (e1.trans e2) c2 (.int _)⟩
    · cases hd
  · cases hd
end
end GA

set_option Elab.async false
set_option linter.all false
set_option maxRecDepth 100000
set_option maxHeartbeats 2000000
/-! lists and dicts of one's own -/
namespace GA
open PySem PySem.Spec PyProof.Rows L2 GenW

section
variable {K : PySem.W.Frag} {T : List Addr} {dk dc a : Addr} {F0 H0 F H : Hp} {σ : L2.St} {st : Sta} {o o' : HO} {i : Nat} {x y : Slot}
theorem set_id {α : Type} {l : List α} {i : Nat} {v : α} (h : l[i]? = some v) : l.set i v = l := by
  apply List.ext_getElem?
  intro j
  by_cases q : i = j
  · subst q
    rw [List.getElem?_set_self (List.getElem?_eq_some_iff.mp h).1, h]
  · rw [List.getElem?_set_ne q]
/-- the own object of the slot i is changed -/
theorem Cfg.putOwn (c : Cfg K T dk dc F0 H0 F H σ st) (hi : st.r[i]? = some y) (hy : (∀ d, y ≠ .dat d) ∧ y ≠ .un) (hs : σ[i]? = some (some (.ref a))) (m : Mine dk dc H0 F H a o) (n : ∀ ps, o ≠ .tbl ps)
    (hx : (∃ ds vs, x = .own ds ∧ o' = .lst vs ∧ Reps K F vs ds) ∨ (∃ kds vs, x = .ownd kds ∧ o' = .dK vs ∧ Reps K F (vs.map (·.2)) (kds.map (·.2)) ∧ vs.map (·.1) = kds.map (·.1))) :
    Cfg K T dk dc F0 H0 F (upd H a o') σ { st with r := st.r.set i x } := by
  obtain ⟨d1, d2, d3, d4⟩ := c.deck
  have e0 : EnvOk K dk dc H0 F H σ (st.r.set i .un) := by
    have := c.env.drop (i := i) (o := some (.ref a))
    rw [set_id hs] at this
    exact this
  have other : ∀ (j : Nat) z b, (st.r.set i .un)[j]? = some z → (∀ d, z ≠ .dat d) → z ≠ .un → σ[j]? = some (some (.ref b)) → b ≠ a := fun j z b hz n1 n2 hb w => by
    by_cases q : i = j
    · subst q
      rw [List.getElem?_set_self (List.getElem?_eq_some_iff.mp hi).1] at hz
      cases hz
      exact n2 rfl
    · rw [List.getElem?_set_ne q] at hz
      subst w
      exact c.env.apart i j b q ⟨y, hi, hy.1, hy.2⟩ ⟨z, hz, n1, n2⟩ hs hb
  have e1 : EnvOk K dk dc H0 F (upd H a o') σ (st.r.set i .un) := by
    refine ⟨e0.len, e0.dat, fun j xs h => ?_, fun j xs h => ?_, e0.apart⟩
    · obtain ⟨b, vs, h1, h2, h3⟩ := e0.own j xs h
      have nb := other j _ b h (fun d z => by cases z) (fun z => by cases z) h1
      exact ⟨b, vs, h1, ⟨h2.fr, by rw [upd_ne nb]; exact h2.at_, h2.new, h2.nk, h2.nc⟩, h3⟩
    · obtain ⟨b, vs, h1, h2, h3⟩ := e0.ownd j xs h
      have nb := other j _ b h (fun d z => by cases z) (fun z => by cases z) h1
      exact ⟨b, vs, h1, ⟨h2.fr, by rw [upd_ne nb]; exact h2.at_, h2.new, h2.nk, h2.nc⟩, h3⟩
  have m' : Mine dk dc H0 F (upd H a o') a o' := ⟨m.fr, upd_same, m.new, m.nk, m.nc⟩
  have e2 := e1.setOwn (i := i) (p := a) (x := x) (by
    rcases hx with ⟨ds, vs, h1, h2, h3⟩ | ⟨kds, vs, h1, h2, h3, h4⟩
    · subst h2
      exact .inl ⟨ds, vs, h1, m', h3⟩
    · subst h2
      exact .inr ⟨kds, vs, h1, m', h3, h4⟩) (fun j z hj hz n1 n2 hb => other j z a hz n1 n2 hb rfl)
  rw [set_id hs, List.set_set] at e2
  refine ⟨fun b u e => ?_, ⟨fun b u e m1 m2 m3 => ?_, fun b e => ?_⟩, ⟨d1, d2, by rw [upd_ne (Ne.symm m.nk)]; exact d3, by rw [upd_ne (Ne.symm m.nc)]; exact d4⟩, fun P hP => ?_, e2⟩
  · have hb : b ≠ a := fun z => by rw [z, m.fr] at e; cases e
    rw [upd_ne hb]; exact c.frz b u e
  · have hb : b ≠ a := fun z => by rw [z, m.new] at e; cases e
    rw [upd_ne hb]; exact c.base.keep b u e m1 m2 m3
  · by_cases hb : b = a
    · rw [hb]; exact m.new
    · rw [upd_ne hb] at e; exact c.base.there b e
  · obtain ⟨ps, h, ht⟩ := c.tabs P hP
    have hb : P ≠ a := fun z => by
      rw [z, m.at_] at h
      exact n ps (Option.some.inj h)
    exact ⟨ps, by rw [upd_ne hb]; exact h, ht⟩
end

def ownOf (st : Sta) (i : Nat) : Option (List D) := match st.r[i]? with
  | some (.own xs) => some xs
  | _ => none
theorem ownOf_some {st : Sta} {i : Nat} {xs : List D} (h : ownOf st i = some xs) : st.r[i]? = some (.own xs) := by
  unfold ownOf at h
  split at h
  · cases h; assumption
  · cases h
def owndOf (st : Sta) (i : Nat) : Option (List (Key × D)) := match st.r[i]? with
  | some (.ownd xs) => some xs
  | _ => none
theorem owndOf_some {st : Sta} {i : Nat} {xs : List (Key × D)} (h : owndOf st i = some xs) : st.r[i]? = some (.ownd xs) := by
  unfold owndOf at h
  split at h
  · cases h; assumption
  · cases h
/-- it is an own list now, m is done, then f reads and writes it -/
def mutM (i : Nat) (f : List D → List D → Option (D × List D)) (ml : M (List D)) : M D := fun st => match ownOf st i with
  | none => none
  | some _ => match ml st with
    | none => none
    | some (ds, s1) => match ownOf s1 i with
      | none => none
      | some xs => match f xs ds with
        | none => none
        | some (d, xs') => some (d, { s1 with r := s1.r.set i (.own xs') })
theorem mutM_some {i : Nat} {f : List D → List D → Option (D × List D)} {ml : M (List D)} {st st' : Sta} {d : D} (h : mutM i f ml st = some (d, st')) :
    ∃ xs0 ds s1 xs xs', st.r[i]? = some (.own xs0) ∧ ml st = some (ds, s1) ∧ s1.r[i]? = some (.own xs) ∧ f xs ds = some (d, xs') ∧ st' = { s1 with r := s1.r.set i (.own xs') } := by
  unfold mutM at h
  split at h
  · cases h
  · rename_i xs0 h0
    split at h
    · cases h
    · rename_i ds s1 h1
      split at h
      · cases h
      · rename_i xs h2
        split at h
        · cases h
        · rename_i d' xs' h3
          cases h
          exact ⟨xs0, ds, s1, xs, xs', ownOf_some h0, h1, ownOf_some h2, h3, rfl⟩
/-- a method that changes the list, by data -/
def MutD (K : PySem.W.Frag) (r : V → List V → Hp → VK → Prop) (f : List D → List D → Option (D × List D)) : Prop := ∀ (F H : Hp) (a : Addr) (vs ws : List V) (xs ds xs' : List D) (d : D) (Q : VK), Frz F H → H a = some (.lst vs) → Reps K F vs xs → Reps K F ws ds → f xs ds = some (d, xs') →
  (∀ v vs', Rep K F v d → Reps K F vs' xs' → Q v (upd H a (.lst vs'))) → r (.ref a) ws H Q
section
variable {K : PySem.W.Frag}
def fAppend (xs : List D) : List D → Option (D × List D) | [d] => if xs.length < sizeLine then some (.non, xs ++ [d]) else none | _ => none
theorem md_append : MutD K rAppend fAppend := by
  intro F H a vs ws xs ds xs' d Q z ha r1 r2 hf q
  unfold fAppend at hf
  split at hf
  · split at hf
    · rename_i hl
      cases hf
      obtain ⟨v, rfl, r3⟩ := r2.one_inv
      exact ⟨a, vs, v, rfl, rfl, ha, by rw [r1.length]; exact hl, q _ _ .non (r1.app (Reps.one r3))⟩
    · cases hf
  · cases hf
def fExtend (xs : List D) : List D → Option (D × List D) | [.lst zs] => if xs.length + zs.length ≤ sizeLine then some (.non, xs ++ zs) else none | _ => none
theorem md_extend : MutD K rExtend fExtend := by
  intro F H a vs ws xs ds xs' d Q z ha r1 r2 hf q
  unfold fExtend at hf
  split at hf
  · split at hf
    · rename_i hl
      cases hf
      obtain ⟨v, rfl, r3⟩ := r2.one_inv
      obtain ⟨b, us, rfl, hb, r4⟩ := r3.lst_at
      exact ⟨a, b, vs, us, rfl, rfl, ha, (z _ _ hb).1, by rw [r1.length, r4.length]; exact hl, q _ _ .non (r1.app r4)⟩
    · cases hf
  · cases hf
theorem Reps.dropLast {F : Hp} {vs : List V} {xs : List D} (r : Reps K F vs xs) : Reps K F vs.dropLast xs.dropLast := by
  rw [List.dropLast_eq_take, List.dropLast_eq_take, r.length]
  exact r.take _
def fPop (xs : List D) : List D → Option (D × List D) | [] => (xs[xs.length - 1]?).map fun d => (d, xs.dropLast) | _ => none
theorem md_pop : MutD K rPop fPop := by
  intro F H a vs ws xs ds xs' d Q z ha r1 r2 hf q
  unfold fPop at hf
  split at hf
  · cases he : xs[xs.length - 1]? with
    | none => rw [he] at hf; cases hf
    | some e =>
      rw [he] at hf
      cases hf
      cases r2
      obtain ⟨v, h1, h2⟩ := r1.get he
      exact ⟨a, vs, v, rfl, rfl, ha, by rw [r1.length]; exact h1, q _ _ h2 r1.dropLast⟩
  · cases hf
theorem Reps.eraseIdx {F : Hp} : ∀ {vs : List V} {xs : List D} (k : Nat), Reps K F vs xs → Reps K F (vs.eraseIdx k) (xs.eraseIdx k)
  | _, _, _, .nil => .nil
  | _, _, 0, .cons a b => b
  | _, _, k + 1, .cons a b => .cons a (b.eraseIdx k)
theorem Reps.set {F : Hp} {v : V} {d : D} (h : Rep K F v d) : ∀ {vs : List V} {xs : List D} (k : Nat), Reps K F vs xs → Reps K F (vs.set k v) (xs.set k d)
  | _, _, _, .nil => .nil
  | _, _, 0, .cons a b => .cons h b
  | _, _, k + 1, .cons a b => .cons a (b.set h k)
def fPopAt (xs : List D) : List D → Option (D × List D)
  | [.int i] => if -(2 ^ 63) ≤ i ∧ i < 2 ^ 63 then (seqIndex? i xs.length).bind fun k => (xs[k]?).map fun d => (d, xs.eraseIdx k) else none
  | _ => none
theorem md_popAt : MutD K rPopAt fPopAt := by
  intro F H a vs ws xs ds xs' d Q z ha r1 r2 hf q
  unfold fPopAt at hf
  split at hf
  · rename_i i
    split at hf
    · rename_i hb
      cases hk : seqIndex? i xs.length with
      | none => rw [hk] at hf; cases hf
      | some k =>
        rw [hk] at hf
        simp only [Option.bind_some] at hf
        cases he : xs[k]? with
        | none => rw [he] at hf; cases hf
        | some e =>
          rw [he] at hf
          cases hf
          obtain ⟨w, rfl, r3⟩ := r2.one_inv
          obtain rfl := r3.int_inv
          obtain ⟨v, h1, h2⟩ := r1.get he
          exact ⟨a, vs, i, k, v, rfl, rfl, ha, hb.1, hb.2, by rw [r1.length]; exact hk, h1, q _ _ h2 (r1.eraseIdx k)⟩
    · cases hf
  · cases hf
end
/-- the new own slot of what a change of it leaves -/
theorem Cfg.mutd {K : PySem.W.Frag} {T : List Addr} {dk dc a : Addr} {F0 H0 F H : Hp} {σ : L2.St} {st : Sta} {i : Nat} {xs xs' : List D} {vs vs' : List V} (c : Cfg K T dk dc F0 H0 F H σ st) (hi : st.r[i]? = some (.own xs)) (hs : σ[i]? = some (some (.ref a)))
    (m : Mine dk dc H0 F H a (.lst vs)) (r : Reps K F vs' xs') : Cfg K T dk dc F0 H0 F (upd H a (.lst vs')) σ { st with r := st.r.set i (.own xs') } :=
  c.putOwn hi ⟨fun d z => (by cases z), fun z => (by cases z)⟩ hs m (fun ps z => by cases z) (.inl ⟨xs', vs', rfl, rfl, r⟩)
section
variable {X : Cx} {T : List Addr} {e ea : Expr} {es : List Expr} {x : Str} {p pos : Pos} {ma : M D} {ml : M (List D)} {apos cpos : Pos} {id : String} {name : Str} {r : V → List V → Hp → VK → Prop} {f : List D → List D → Option (D × List D)}
/-- xs.name(e, ..), xs an own list -/
theorem pm_mut (i : Nat) (slot : PySem.Slot "list" name id) (hty : typeOf (.builtin id) = pure (.type "method_descriptor")) (hm : MtR X id r) (hf : MutD X.K r f) (h : PMA T X (e :: es) ml) (hN : X.N[i]? = some x := by rfl)
    (hv : Vis X.env.scope x := by first | exact Or.inl rfl | exact Or.inr (Or.inl rfl) | exact Or.inr (Or.inr rfl)) (hd : (x == ("__debug__" : Str)) = false := by decide) (hcd : (x == ("__classdict__" : Str)) = false := by decide)
    (hbase : attributeBase (.Name x p) name X.env (eval (.Name x p) X.env) = eval (.Name x p) X.env := by rfl)
    (hfew : ((backTo cpos (starEach (e :: es) X.env)).all (fun x => !x.1) && (backToKw cpos (keywordEach [] X.env)).all (fun x => x.1.isSome)
      && decide ((e :: es).length + ([] : List Keyword).length + (if ([] : List Keyword).isEmpty then 0 else 1) < 30)) = true := by rfl)
    (hline : (apos.endLine == cpos.line) = true := by rfl) (hs : starEach (e :: es) X.env = (false, eval e X.env) :: starEach es X.env := by rfl) (hplain : (backTo cpos (starEach es X.env)).any (·.1) = false := by rfl) :
    PM T X (.Call (.Attribute (.Name x p) name apos) (e :: es) [] cpos) (mutM i f ml) := by
  obtain ⟨tb, pb, hb⟩ := h.ex
  refine ⟨_, pe_bm PySem.F.plainAttrs_list slot hty hm (pe_var hN hv hd hcd) pb hbase hfew hline hs hplain, fun dk dc F0 H0 F H σ st st' d Q c hm q => ?_⟩
  obtain ⟨xs0, ds, s1, xs, xs', g0, g1, g2, g3, rfl⟩ := mutM_some hm
  obtain ⟨a, vs, h1, h2, h3⟩ := c.env.own i _ g0
  refine ⟨_, h1, .inl ⟨rfl, vs, .inl (.inl h2.at_)⟩, hb dk dc F0 H0 F H σ st s1 ds _ c g1 fun ws F1 H1 e1 c1 r1 => ?_⟩
  obtain ⟨a', vs1, k1, k2, k3⟩ := c1.env.own i _ g2
  have : a' = a := by rw [h1] at k1; cases k1; rfl
  subst this
  exact hf F1 H1 a' vs1 ws xs ds xs' d _ c1.frz k2.at_ k3 r1 g3 fun v vs' rv rs => q v F1 _ e1 (c1.mutd g2 k1 k2 rs) rv
theorem pm_mut0 (i : Nat) (slot : PySem.Slot "list" name id) (hty : typeOf (.builtin id) = pure (.type "method_descriptor")) (hm : MtR X id r) (hf : MutD X.K r f) (hN : X.N[i]? = some x := by rfl)
    (hv : Vis X.env.scope x := by first | exact Or.inl rfl | exact Or.inr (Or.inl rfl) | exact Or.inr (Or.inr rfl)) (hd : (x == ("__debug__" : Str)) = false := by decide) (hcd : (x == ("__classdict__" : Str)) = false := by decide)
    (hbase : attributeBase (.Name x p) name X.env (eval (.Name x p) X.env) = eval (.Name x p) X.env := by rfl) (hline : (apos.endLine == cpos.line) = true := by rfl) :
    PM T X (.Call (.Attribute (.Name x p) name apos) [] [] cpos) (mutM i f (pureM [])) := by
  refine ⟨_, pe_bm0 PySem.F.plainAttrs_list slot hty hm (pe_var hN hv hd hcd) hbase hline, fun dk dc F0 H0 F H σ st st' d Q c hm q => ?_⟩
  obtain ⟨xs0, ds, s1, xs, xs', g0, g1, g2, g3, rfl⟩ := mutM_some hm
  obtain ⟨rfl, rfl⟩ := pureM_some g1
  obtain ⟨a, vs, h1, h2, h3⟩ := c.env.own i _ g2
  exact ⟨_, h1, .inl ⟨rfl, vs, .inl (.inl h2.at_)⟩, hf F H a vs [] xs [] xs' d _ c.frz h2.at_ h3 .nil g3 fun v vs' rv rs => q v F _ (Ext.refl F) (c.mutd g2 h1 h2 rs) rv⟩
/-- len(xs), xs[e] of an own list, which stays one's own -/
theorem pm_ownLen (i : Nat) {lp : Pos} (hg : Gl X "len") (hm : X.mg "len" = none) (hN : X.N[i]? = some x := by rfl) (hv : Vis X.env.scope x := by first | exact Or.inl rfl | exact Or.inr (Or.inl rfl) | exact Or.inr (Or.inr rfl)) (hd : (x == ("__debug__" : Str)) = false := by decide) (hcd : (x == ("__classdict__" : Str)) = false := by decide)
    (he : starEach [.Name x p] X.env = (false, eval (.Name x p) X.env) :: starEach [] X.env := by rfl) (hpl : (backTo pos (starEach [] X.env)).any (·.1) = false := by rfl) : PM T X (.Call (.Name "len" lp) [.Name x p] [] pos) (fun st => (ownOf st i).map fun xs => (.int xs.length, st)) := by
  refine ⟨_, pe_callB call_len hg hm boot_len (pa_cons (pe_var hN hv hd hcd) pa_nil he) (he := he) (hpl := hpl), fun dk dc F0 H0 F H σ st st' d Q c hm q => ?_⟩
  cases ho : ownOf st i with
  | none => rw [ho] at hm; cases hm
  | some xs =>
    rw [ho] at hm
    cases hm
    obtain ⟨a, vs, h1, h2, h3⟩ := c.env.own i _ (ownOf_some ho)
    exact ⟨_, h1, _, _, rfl, .inl ⟨vs, .inl (.inl h2.at_), rfl⟩, q _ F H (Ext.refl F) c (by rw [h3.length]; exact .int _)⟩
def ownIxM (i : Nat) (me : M D) : M D := fun st => match ownOf st i with
  | none => none
  | some _ => match me st with
    | none => none
    | some (k, s1) => match ownOf s1 i with
      | none => none
      | some xs => match (asI k).bind (L2.atI xs) with
        | none => none
        | some d => some (d, s1)
theorem pm_ownIx (i : Nat) (b : PM T X e ma) (hs : PlainIx e := by exact fun _ _ => rfl) (hN : X.N[i]? = some x := by rfl) (hv : Vis X.env.scope x := by first | exact Or.inl rfl | exact Or.inr (Or.inl rfl) | exact Or.inr (Or.inr rfl)) (hd : (x == ("__debug__" : Str)) = false := by decide) (hcd : (x == ("__classdict__" : Str)) = false := by decide) :
    PM T X (.Subscript (.Name x p) e pos) (ownIxM i ma) := by
  obtain ⟨tb, pb, hb⟩ := b.ex
  refine ⟨_, pe_ix ix_list (pe_var hN hv hd hcd) pb hs, fun dk dc F0 H0 F H σ st st' d Q c hm q => ?_⟩
  unfold ownIxM at hm
  split at hm
  · cases hm
  · rename_i xs0 g0
    split at hm
    · cases hm
    · rename_i k s1 g1
      split at hm
      · cases hm
      · rename_i xs g2
        split at hm
        · cases hm
        · rename_i d' g3
          cases hm
          obtain ⟨a, vs, h1, h2, h3⟩ := c.env.own i _ (ownOf_some g0)
          refine ⟨_, h1, hb dk dc F0 H0 F H σ st _ k _ c g1 fun w F1 H1 e1 c1 r1 => ?_⟩
          obtain ⟨a', vs1, k1, k2, k3⟩ := c1.env.own i _ (ownOf_some g2)
          have : a' = a := by rw [h1] at k1; cases k1; rfl
          subst this
          cases k with
          | int j =>
            obtain rfl := r1.int_inv
            obtain ⟨v, q1, q2⟩ := k3.atI (show L2.atI xs j = some d from g3)
            exact ⟨a', vs1, j, v, rfl, rfl, .inl (.inl k2.at_), q1, q v F1 H1 e1 c1 q2⟩
          | _ => cases g3
/-- xs[e] = .. of an own list -/
def ownSetM (i : Nat) (me : M D) : D → M Unit := fun d st => match ownOf st i with
  | none => none
  | some _ => match me st with
    | none => none
    | some (k, s1) => match ownOf s1 i with
      | none => none
      | some xs => match (asI k).bind (ixN xs.length) with
        | none => none
        | some j => some ((), { s1 with r := s1.r.set i (.own (xs.set j d)) })
theorem pmg_ownSet (i : Nat) (b : PM T X e ma) (hN : X.N[i]? = some x := by rfl) (hv : Vis X.env.scope x := by first | exact Or.inl rfl | exact Or.inr (Or.inl rfl) | exact Or.inr (Or.inr rfl)) (hd : (x == ("__debug__" : Str)) = false := by decide) (hcd : (x == ("__classdict__" : Str)) = false := by decide)
    (ha : ∀ v, assign (.Subscript (.Name x p) e pos) X.env v = (do
      let ov ← holding [v] (eval (.Name x p) X.env)
      let iv ← holding [v, ov] (eval e X.env)
      standAt pos
      holding [v, ov, iv] (setItem ov iv v)
      release [v, ov, iv] []) := by intro _; rfl) : PMG T X (.Subscript (.Name x p) e pos) (ownSetM i ma) [] := by
  obtain ⟨tb, pb, hb⟩ := b.ex
  refine ⟨_, pg_sub (pe_var hN hv hd hcd) pb set_list ha, fun dk dc F0 H0 F H σ st st' v d Q c rv hm q => ?_⟩
  unfold ownSetM at hm
  split at hm
  · cases hm
  · rename_i xs0 g0
    split at hm
    · cases hm
    · rename_i k s1 g1
      split at hm
      · cases hm
      · rename_i xs g2
        split at hm
        · cases hm
        · rename_i j g3
          cases hm
          obtain ⟨a, vs, h1, h2, h3⟩ := c.env.own i _ (ownOf_some g0)
          refine ⟨_, h1, hb dk dc F0 H0 F H σ st _ k _ c g1 fun w F1 H1 e1 c1 r1 => ?_⟩
          obtain ⟨a', vs1, k1, k2, k3⟩ := c1.env.own i _ (ownOf_some g2)
          have : a' = a := by rw [h1] at k1; cases k1; rfl
          subst this
          cases k with
          | int n =>
            obtain rfl := r1.int_inv
            exact ⟨a', vs1, n, j, rfl, rfl, k2.at_, by rw [k3.length]; exact g3, q σ F1 _ e1 (c1.mutd (ownOf_some g2) k1 k2 (k3.set (rv.ext e1) j)) (Same.refl _ _)⟩
          | _ => cases g3
end
end GA

set_option Elab.async false
set_option linter.all false
set_option maxRecDepth 100000
set_option maxHeartbeats 2000000
/-! a dict of one's own; x, y = a, b -/
namespace GA
open PySem PySem.Spec PyProof.Rows L2 GenW

def keyD : D → Option Key
  | .int i => some (.inl i)
  | .str x => some (.inr x)
  | _ => none
def getP (kds : List (Key × D)) (k : Key) : Option D := (kds.find? fun kv => decide (kv.1 = k)).map (·.2)
def putP (kds : List (Key × D)) (k : Key) (d : D) : List (Key × D) :=
  if (kds.any fun kv => decide (kv.1 = k)) = true then kds.map (fun kv => if kv.1 = k then (kv.1, d) else kv) else kds ++ [(k, d)]
section
variable {K : PySem.W.Frag} {F : Hp}
inductive KR (K : PySem.W.Frag) (F : Hp) : List (Key × V) → List (Key × D) → Prop
  | nil : KR K F [] []
  | cons {k v d vs ds} : Rep K F v d → KR K F vs ds → KR K F ((k, v) :: vs) ((k, d) :: ds)
theorem KR.of : ∀ {vs : List (Key × V)} {ds : List (Key × D)}, Reps K F (vs.map (·.2)) (ds.map (·.2)) → vs.map (·.1) = ds.map (·.1) → KR K F vs ds
  | [], [], _, _ => .nil
  | [], _ :: _, r, _ => by cases r
  | _ :: _, [], r, _ => by cases r
  | (k, v) :: vs, (k', d) :: ds, r, e => by
    cases r with
    | cons a b =>
      rw [List.map_cons, List.map_cons, List.cons.injEq] at e
      have : k = k' := e.1
      subst this
      exact .cons a (KR.of b e.2)
theorem KR.vals : ∀ {vs : List (Key × V)} {ds : List (Key × D)}, KR K F vs ds → Reps K F (vs.map (·.2)) (ds.map (·.2)) ∧ vs.map (·.1) = ds.map (·.1) ∧ vs.length = ds.length
  | _, _, .nil => ⟨.nil, rfl, rfl⟩
  | _, _, .cons a b => ⟨.cons a b.vals.1, by rw [List.map_cons, List.map_cons, b.vals.2.1], by rw [List.length_cons, List.length_cons, b.vals.2.2]⟩
theorem KR.get {k : Key} {d : D} : ∀ {vs : List (Key × V)} {ds : List (Key × D)}, KR K F vs ds → getP ds k = some d → ∃ v, valV vs k = some v ∧ Rep K F v d
  | _, _, .nil, h => by cases h
  | _, _, .cons (k := k') (v := v) (d := d') a b, h => by
    by_cases e : k' = k
    · subst e
      have h : getP ((k', d') :: _) k' = some d := h
      unfold getP at h
      simp at h
      subst h
      exact ⟨v, valV_pos rfl, a⟩
    · unfold getP at h
      rw [List.find?_cons_of_neg (by simpa using e)] at h
      obtain ⟨w, h1, h2⟩ := b.get (k := k) (d := d) h
      exact ⟨w, by rw [valV_neg e]; exact h1, h2⟩
theorem KR.anyk {k : Key} : ∀ {vs : List (Key × V)} {ds : List (Key × D)}, KR K F vs ds → (vs.any fun kv => decide (kv.1 = k)) = ds.any fun kv => decide (kv.1 = k)
  | _, _, .nil => rfl
  | _, _, .cons a b => by rw [List.any_cons, List.any_cons, b.anyk]
theorem KR.app : ∀ {vs ws : List (Key × V)} {ds es : List (Key × D)}, KR K F vs ds → KR K F ws es → KR K F (vs ++ ws) (ds ++ es)
  | _, _, _, _, .nil, h => h
  | _, _, _, _, .cons a b, h => .cons a (b.app h)
theorem KR.mapk {k : Key} {v : V} {d : D} (h : Rep K F v d) : ∀ {vs : List (Key × V)} {ds : List (Key × D)}, KR K F vs ds → KR K F (vs.map fun kv => if kv.1 = k then (kv.1, v) else kv) (ds.map fun kv => if kv.1 = k then (kv.1, d) else kv)
  | _, _, .nil => .nil
  | _, _, .cons (k := k') a b => by
    rw [List.map_cons, List.map_cons]
    by_cases e : k' = k
    · rw [if_pos e, if_pos e]; exact .cons h (b.mapk h)
    · rw [if_neg e, if_neg e]; exact .cons a (b.mapk h)
theorem KR.put {k : Key} {v : V} {d : D} (h : Rep K F v d) {vs : List (Key × V)} {ds : List (Key × D)} (r : KR K F vs ds) : KR K F (putK vs k v) (putP ds k d) := by
  unfold putK putP
  rw [r.anyk]
  split
  · exact r.mapk h
  · exact r.app (.cons h .nil)
end
section
variable {X : Cx} {T : List Addr} {e : Expr} {x : Str} {p pos : Pos} {ma : M D}
def dGetM (i : Nat) (me : M D) : M D := fun st => match owndOf st i with
  | none => none
  | some _ => match me st with
    | none => none
    | some (k, s1) => match owndOf s1 i with
      | none => none
      | some xs => match (keyD k).bind (getP xs) with
        | none => none
        | some d => some (d, s1)
theorem key_v {K : PySem.W.Frag} {F : Hp} {w : V} {k : D} {j : Key} (r : Rep K F w k) (h : keyD k = some j) : w = kV j := by
  cases k with
  | int i => cases h; obtain rfl := r.int_inv; rfl
  | str z => cases h; obtain rfl := r.str_inv; rfl
  | _ => cases h
theorem pm_dGet (i : Nat) (hu : X.A.units + 1 < cLine) (b : PM T X e ma) (hs : NoSl e := by exact fun _ _ => rfl) (hN : X.N[i]? = some x := by rfl) (hv : Vis X.env.scope x := by first | exact Or.inl rfl | exact Or.inr (Or.inl rfl) | exact Or.inr (Or.inr rfl)) (hd : (x == ("__debug__" : Str)) = false := by decide) (hcd : (x == ("__classdict__" : Str)) = false := by decide) :
    PM T X (.Subscript (.Name x p) e pos) (dGetM i ma) := by
  obtain ⟨tb, pb, hb⟩ := b.ex
  refine ⟨_, pe_dget hu (pe_var hN hv hd hcd) pb hs, fun dk dc F0 H0 F H σ st st' d Q c hm q => ?_⟩
  unfold dGetM at hm
  split at hm
  · cases hm
  · rename_i xs0 g0
    split at hm
    · cases hm
    · rename_i k s1 g1
      split at hm
      · cases hm
      · rename_i xs g2
        split at hm
        · cases hm
        · rename_i d' g3
          cases hm
          obtain ⟨a, vs, h1, h2, h3⟩ := c.env.ownd i _ (owndOf_some g0)
          refine ⟨_, h1, hb dk dc F0 H0 F H σ st _ k _ c g1 fun w F1 H1 e1 c1 r1 => ?_⟩
          obtain ⟨a', vs1, k1, k2, k3, k4⟩ := c1.env.ownd i _ (owndOf_some g2)
          have : a' = a := by rw [h1] at k1; cases k1; rfl
          subst this
          cases hk : keyD k with
          | none => rw [hk] at g3; cases g3
          | some j =>
            rw [hk] at g3
            obtain ⟨v, q1, q2⟩ := (KR.of k3 k4).get (show getP xs j = some d from g3)
            refine ⟨a', v, rfl, ?_, q v F1 H1 e1 c1 q2⟩
            rw [key_v r1 hk, ← q1]
            exact DGet.k k2.at_
def dSetM (i : Nat) (me : M D) : D → M Unit := fun d st => match owndOf st i with
  | none => none
  | some _ => match me st with
    | none => none
    | some (k, s1) => match owndOf s1 i with
      | none => none
      | some xs => match keyD k with
        | none => none
        | some j => if xs.length < sizeLine then some ((), { s1 with r := s1.r.set i (.ownd (putP xs j d)) }) else none
theorem pmg_dSet (i : Nat) (hu : X.A.units + 1 < cLine) (b : PM T X e ma) (hN : X.N[i]? = some x := by rfl) (hv : Vis X.env.scope x := by first | exact Or.inl rfl | exact Or.inr (Or.inl rfl) | exact Or.inr (Or.inr rfl)) (hd : (x == ("__debug__" : Str)) = false := by decide) (hcd : (x == ("__classdict__" : Str)) = false := by decide)
    (ha : ∀ v, assign (.Subscript (.Name x p) e pos) X.env v = (do
      let ov ← holding [v] (eval (.Name x p) X.env)
      let iv ← holding [v, ov] (eval e X.env)
      standAt pos
      holding [v, ov, iv] (setItem ov iv v)
      release [v, ov, iv] []) := by intro _; rfl) : PMG T X (.Subscript (.Name x p) e pos) (dSetM i ma) [] := by
  obtain ⟨tb, pb, hb⟩ := b.ex
  refine ⟨_, pg_sub (pe_var hN hv hd hcd) pb (set_dict hu) ha, fun dk dc F0 H0 F H σ st st' v d Q c rv hm q => ?_⟩
  unfold dSetM at hm
  split at hm
  · cases hm
  · rename_i xs0 g0
    split at hm
    · cases hm
    · rename_i k s1 g1
      split at hm
      · cases hm
      · rename_i xs g2
        split at hm
        · cases hm
        · rename_i j g3
          split at hm
          · rename_i hlen
            cases hm
            obtain ⟨a, vs, h1, h2, h3⟩ := c.env.ownd i _ (owndOf_some g0)
            refine ⟨_, h1, hb dk dc F0 H0 F H σ st _ k _ c g1 fun w F1 H1 e1 c1 r1 => ?_⟩
            obtain ⟨a', vs1, k1, k2, k3, k4⟩ := c1.env.ownd i _ (owndOf_some g2)
            have : a' = a := by rw [h1] at k1; cases k1; rfl
            subst this
            have kr := KR.of k3 k4
            have kr2 := (kr.put (k := j) (rv.ext e1)).vals
            refine ⟨a', _, rfl, ?_, q σ F1 _ e1 (c1.putOwn (owndOf_some g2) ⟨fun d z => (by cases z), fun z => (by cases z)⟩ k1 k2 (fun ps z => by cases z) (.inr ⟨_, _, rfl, rfl, kr2.1, kr2.2.1⟩)) (Same.refl _ _)⟩
            rw [key_v r1 g3]
            exact DPut.k k2.at_ (by rw [kr.vals.2.2]; exact hlen)
          · cases hm
end

/-! ### x, y = a, b -/
/-- the values of a row of expressions, each a datum or an object of one's own -/
inductive SV (K : PySem.W.Frag) (dk dc : Addr) (H0 F H : Hp) (σ : L2.St) (r : List Slot) : List Addr → List V → List Slot → Prop
  | nil : SV K dk dc H0 F H σ r [] [] []
  | dat {as v d vs ss} : Rep K F v d → SV K dk dc H0 F H σ r as vs ss → SV K dk dc H0 F H σ r as (v :: vs) (.dat d :: ss)
  | own {as a ws xs vs ss} : Mine dk dc H0 F H a (.lst ws) → Reps K F ws xs → a ∉ as → (∀ (j : Nat) y, r[j]? = some y → (∀ d, y ≠ .dat d) → y ≠ .un → σ[j]? ≠ some (some (.ref a))) → SV K dk dc H0 F H σ r as vs ss → SV K dk dc H0 F H σ r (a :: as) (.ref a :: vs) (.own xs :: ss)
  | ownd {as a vs ss} : Mine dk dc H0 F H a (.dK []) → a ∉ as → (∀ (j : Nat) y, r[j]? = some y → (∀ d, y ≠ .dat d) → y ≠ .un → σ[j]? ≠ some (some (.ref a))) → SV K dk dc H0 F H σ r as vs ss → SV K dk dc H0 F H σ r (a :: as) (.ref a :: vs) (.ownd [] :: ss)
structure PMX (T : List Addr) (X : Cx) (es : List Expr) (m : M (List Slot)) : Prop where
  ex : ∃ t : TA, PA X es t ∧ ∀ (dk dc : Addr) (F0 H0 F H : Hp) (σ : L2.St) (st st' : Sta) (ss : List Slot) (Q : List V → Hp → Prop), Cfg X.K T dk dc F0 H0 F H σ st → m st = some (ss, st') →
    (∀ as vs F' H', Ext F F' → Cfg X.K T dk dc F0 H0 F' H' σ st' → SV X.K dk dc H0 F' H' σ st'.r as vs ss → Q vs H') → t σ H Q
theorem SV.fresh {K : PySem.W.Frag} {dk dc p : Addr} {H0 F H : Hp} {o : HO} {σ : L2.St} {r : List Slot} : ∀ {as : List Addr} {vs : List V} {ss : List Slot}, SV K dk dc (upd H0 p o) F H σ r as vs ss → p ∉ as ∧ (H0 p = none → SV K dk dc H0 F H σ r as vs ss)
  | _, _, _, .nil => ⟨by simp, fun _ => .nil⟩
  | _, _, _, .dat a b => ⟨b.fresh.1, fun h => .dat a (b.fresh.2 h)⟩
  | _, _, _, .own (a := a) m r n1 n2 b => by
    have na : a ≠ p := fun z => by
      have := m.new
      rw [z, upd_same] at this; cases this
    exact ⟨by simp only [List.mem_cons, not_or]; exact ⟨fun z => na z.symm, b.fresh.1⟩, fun h => .own ⟨m.fr, m.at_, by have := m.new; rw [upd_ne na] at this; exact this, m.nk, m.nc⟩ r n1 n2 (b.fresh.2 h)⟩
  | _, _, _, .ownd (a := a) m n1 n2 b => by
    have na : a ≠ p := fun z => by
      have := m.new
      rw [z, upd_same] at this; cases this
    exact ⟨by simp only [List.mem_cons, not_or]; exact ⟨fun z => na z.symm, b.fresh.1⟩, fun h => .ownd ⟨m.fr, m.at_, by have := m.new; rw [upd_ne na] at this; exact this, m.nk, m.nc⟩ n1 n2 (b.fresh.2 h)⟩
section
variable {X : Cx} {T : List Addr} {e : Expr} {es : List Expr} {pos : Pos} {ma : M D} {ml : M (List D)} {mr : M (List Slot)}
theorem pmx_nil : PMX T X [] (pureM []) := ⟨_, pa_nil, fun dk dc F0 H0 F H σ st st' ss Q c hm q => by
  obtain ⟨rfl, rfl⟩ := pureM_some hm
  exact q [] [] F H (Ext.refl F) c .nil⟩
theorem pmx_dat (a : PM T X e ma) (r : PMX T X es mr) (hs : starEach (e :: es) X.env = (false, eval e X.env) :: starEach es X.env := by rfl) : PMX T X (e :: es) (bindM ma fun d => bindM mr fun ss => pureM (.dat d :: ss)) := by
  obtain ⟨ta, pa, ha⟩ := a.ex
  obtain ⟨tr, pr, hr⟩ := r.ex
  refine ⟨_, pa_cons pa pr hs, fun dk dc F0 H0 F H σ st st' ss Q c hm q => ?_⟩
  obtain ⟨d, s1, hm1, hm⟩ := bindM_some hm
  obtain ⟨ss', s2, hm2, hm3⟩ := bindM_some hm
  obtain ⟨rfl, rfl⟩ := pureM_some hm3
  refine ha dk dc F0 H0 F H σ st s1 d _ c hm1 fun v F1 H1 e1 c1 r1 => hr dk dc F0 H0 F1 H1 σ s1 _ ss' _ c1 hm2 fun as vs F2 H2 e2 c2 sv => ?_
  exact q as _ F2 H2 (e1.trans e2) c2 (.dat (r1.ext e2) sv)
theorem own_far {K : PySem.W.Frag} {dk dc p : Addr} {F0 H0 F H : Hp} {o : HO} {σ : L2.St} {st : Sta} (c : Cfg K T dk dc F0 (upd H0 p o) F H σ st) : ∀ (j : Nat) y, st.r[j]? = some y → (∀ d, y ≠ .dat d) → y ≠ .un → σ[j]? ≠ some (some (.ref p)) := fun j y hy n1 n2 hs => by
  have key : ∀ {a : Addr} {u : HO}, Mine dk dc (upd H0 p o) F H a u → a = p → False := fun {a u} m z => by
    have := m.new
    rw [z, upd_same] at this; cases this
  cases y with
  | un => exact n2 rfl
  | dat d => exact n1 d rfl
  | own xs =>
    obtain ⟨b, ws, z1, z2, _⟩ := c.env.own j xs hy
    rw [z1] at hs; cases hs
    exact key z2 rfl
  | ownd xs =>
    obtain ⟨b, ws, z1, z2, _⟩ := c.env.ownd j xs hy
    rw [z1] at hs; cases hs
    exact key z2 rfl
theorem pmx_own (a : PML T X e ml) (r : PMX T X es mr) (hs : starEach (e :: es) X.env = (false, eval e X.env) :: starEach es X.env := by rfl) : PMX T X (e :: es) (bindM ml fun xs => bindM mr fun ss => pureM (.own xs :: ss)) := by
  obtain ⟨ta, pa, ha⟩ := a.ex
  obtain ⟨tr, pr, hr⟩ := r.ex
  refine ⟨_, pa_cons pa pr hs, fun dk dc F0 H0 F H σ st st' ss Q c hm q => ?_⟩
  obtain ⟨xs, s1, hm1, hm⟩ := bindM_some hm
  obtain ⟨ss', s2, hm2, hm3⟩ := bindM_some hm
  obtain ⟨rfl, rfl⟩ := pureM_some hm3
  refine ha dk dc F0 H0 F H σ st s1 xs _ c hm1 fun p vs1 F1 H1 e1 c1 hp r1 hz => ?_
  have hp0 := c1.base.there p hp
  obtain ⟨nk, nc⟩ := c1.nk hp
  have ck := c1.keepIt (o := .lst vs1) hp fun ps z => by cases z
  refine hr dk dc _ _ F1 _ σ s1 _ ss' _ ck hm2 fun as vs F2 H2 e2 c2 sv => ?_
  obtain ⟨c3, m⟩ := c2.letIt hp0 (fun ps z => by cases z) nk nc
  exact q (p :: as) _ F2 H2 (e1.trans e2) c3 (.own m (r1.ext e2) sv.fresh.1 (own_far c2) (sv.fresh.2 hp0))
theorem pmx_dict (r : PMX T X es mr) (hs : starEach (.Dict [] [] pos :: es) X.env = (false, eval (.Dict [] [] pos) X.env) :: starEach es X.env := by rfl) : PMX T X (.Dict [] [] pos :: es) (bindM mr fun ss => pureM (.ownd [] :: ss)) := by
  obtain ⟨tr, pr, hr⟩ := r.ex
  refine ⟨_, pa_cons pe_dnewK pr hs, fun dk dc F0 H0 F H σ st st' ss Q c hm q => ?_⟩
  obtain ⟨ss', s2, hm2, hm3⟩ := bindM_some hm
  obtain ⟨rfl, rfl⟩ := pureM_some hm3
  intro p hp
  have hp0 := c.base.there p hp
  obtain ⟨nk, nc⟩ := c.nk hp
  have ck := c.keepIt (o := .dK []) hp fun ps z => by cases z
  refine hr dk dc _ _ F _ σ st _ ss' _ ck hm2 fun as vs F2 H2 e2 c2 sv => ?_
  obtain ⟨c3, m⟩ := c2.letIt hp0 (fun ps z => by cases z) nk nc
  exact q (p :: as) _ F2 H2 e2 c3 (.ownd m sv.fresh.1 (own_far c2) (sv.fresh.2 hp0))
/-- the slots is take the values -/
def laySlots : List Nat → List V → L2.St → L2.St
  | i :: is, v :: vs, σ => laySlots is vs (σ.set i (some v))
  | _, _, σ => σ
def layR : List Nat → List Slot → List Slot → List Slot
  | i :: is, s :: ss, r => layR is ss (r.set i s)
  | _, _, r => r
theorem far_set {σ : L2.St} {r : List Slot} {a : Addr} {i : Nat} {v : V} {x : Slot} (f : ∀ (j : Nat) y, r[j]? = some y → (∀ d, y ≠ .dat d) → y ≠ .un → σ[j]? ≠ some (some (.ref a))) (hx : (∃ d, x = .dat d) ∨ v ≠ .ref a) :
    ∀ (j : Nat) y, (r.set i x)[j]? = some y → (∀ d, y ≠ .dat d) → y ≠ .un → (σ.set i (some v))[j]? ≠ some (some (.ref a)) := fun j y hy n1 n2 hs => by
  by_cases q : i = j
  · subst q
    have hl : i < r.length := by
      have := (List.getElem?_eq_some_iff.mp hy).1
      rwa [List.length_set] at this
    rw [List.getElem?_set_self hl] at hy
    cases hy
    rcases hx with ⟨d, rfl⟩ | hx
    · exact n1 d rfl
    · by_cases hl2 : i < σ.length
      · rw [List.getElem?_set_self hl2] at hs
        cases hs
        exact hx rfl
      · rw [List.getElem?_eq_none (by rw [List.length_set]; omega)] at hs
        cases hs
  · rw [List.getElem?_set_ne q] at hy hs
    exact f j y hy n1 n2 hs
theorem SV.step {K : PySem.W.Frag} {dk dc : Addr} {H0 F H : Hp} {i : Nat} {v : V} {x : Slot} {σ : L2.St} {r : List Slot} : ∀ {as : List Addr} {vs : List V} {ss : List Slot}, SV K dk dc H0 F H σ r as vs ss → ((∃ d, x = .dat d) ∨ ∃ p, v = .ref p ∧ p ∉ as) → SV K dk dc H0 F H (σ.set i (some v)) (r.set i x) as vs ss
  | _, _, _, .nil, _ => .nil
  | _, _, _, .dat a b, h => .dat a (b.step h)
  | _, _, _, .own (a := a) m rr n1 n2 b, h => .own m rr n1 (far_set n2 (h.elim .inl fun ⟨p, e, n⟩ => .inr fun z => n (by rw [e] at z; cases z; exact List.mem_cons_self))) (b.step (h.elim .inl fun ⟨p, e, n⟩ => .inr ⟨p, e, fun z => n (List.mem_cons_of_mem _ z)⟩))
  | _, _, _, .ownd (a := a) m n1 n2 b, h => .ownd m n1 (far_set n2 (h.elim .inl fun ⟨p, e, n⟩ => .inr fun z => n (by rw [e] at z; cases z; exact List.mem_cons_self))) (b.step (h.elim .inl fun ⟨p, e, n⟩ => .inr ⟨p, e, fun z => n (List.mem_cons_of_mem _ z)⟩))
theorem SV.lay {K : PySem.W.Frag} {dk dc : Addr} {F0 H0 F H : Hp} {s : S} : ∀ {is : List Nat} {as : List Addr} {vs : List V} {ss : List Slot} {σ : L2.St} {r : List Slot}, SV K dk dc H0 F H σ r as vs ss → Cfg K T dk dc F0 H0 F H σ ⟨s, r⟩ → Cfg K T dk dc F0 H0 F H (laySlots is vs σ) ⟨s, layR is ss r⟩ := by
  intro is
  induction is with
  | nil => intro as vs ss σ r _ c; cases vs <;> cases ss <;> exact c
  | cons i is ih =>
    intro as vs ss σ r sv c
    cases sv with
    | nil => exact c
    | dat rd b => exact ih (b.step (.inl ⟨_, rfl⟩)) ⟨c.frz, c.base, c.deck, c.tabs, c.env.set rd⟩
    | own m rr n1 n2 b =>
      exact ih (b.step (.inr ⟨_, rfl, n1⟩)) ⟨c.frz, c.base, c.deck, c.tabs, c.env.setOwn (.inl ⟨_, _, rfl, m, rr⟩) fun j y _ hy d1 d2 => n2 j y hy d1 d2⟩
    | ownd m n1 n2 b =>
      exact ih (b.step (.inr ⟨_, rfl, n1⟩)) ⟨c.frz, c.base, c.deck, c.tabs, c.env.setOwn (.inr ⟨[], _, rfl, m, .nil, rfl⟩) fun j y _ hy d1 d2 => n2 j y hy d1 d2⟩
theorem SV.len {K : PySem.W.Frag} {dk dc : Addr} {H0 F H : Hp} {σ : L2.St} {r : List Slot} : ∀ {as : List Addr} {vs : List V} {ss : List Slot}, SV K dk dc H0 F H σ r as vs ss → vs.length = ss.length
  | _, _, _, .nil => rfl
  | _, _, _, .dat _ b => by rw [List.length_cons, List.length_cons, b.len]
  | _, _, _, .own _ _ _ _ b => by rw [List.length_cons, List.length_cons, b.len]
  | _, _, _, .ownd _ _ _ b => by rw [List.length_cons, List.length_cons, b.len]
def parM (is : List Nat) (m : M (List Slot)) : M Fl := bindM m fun ss => fun st => if ss.length = is.length then some (.nx, { st with r := layR is ss st.r }) else none
theorem pms_par {i j : Nat} {x y : Str} {a b : Expr} {px py pt : Pos} {kt k2 pt2} {mx : M (List Slot)} (hc : X.calm = true) (hN : X.N.Nodup) (h : PMX T X [a, b] mx) (hi : X.N[i]? = some x := by rfl) (hj : X.N[j]? = some y := by rfl) (hij : i ≠ j := by decide)
    (hx : X.env.scope.names.lookup x = some .local := by rfl) (hy : X.env.scope.names.lookup y = some .local := by rfl)
    (hw : swappedStores [.Tuple [.Name x px, .Name y py] kt pt] (.Tuple [a, b] k2 pt2) X.env = pure (some [x, y]) := by rfl)
    (hs : swapsWithSole [.Tuple [.Name x px, .Name y py] kt pt] (.Tuple [a, b] k2 pt2) pos.line X.env = pure false := by rfl) :
    PMS T X (.Assign [.Tuple [.Name x px, .Name y py] kt pt] (.Tuple [a, b] k2 pt2) pos) (parM [i, j] mx) := by
  obtain ⟨t, pt', h⟩ := h.ex
  refine ⟨_, ps_par hc hN hi hj hij hx hy pt' hw hs, fun dk dc F0 H0 F H σ st st' fl De c hm q => ?_⟩
  obtain ⟨ss, s1, hm1, hm2⟩ := bindM_some hm
  split at hm2
  · rename_i hl
    cases hm2
    refine h dk dc F0 H0 F H σ st s1 ss _ c hm1 fun as vs F1 H1 e1 c1 sv => ?_
    have hv := sv.len
    match vs, hv with
    | [v, w], _ => exact ⟨v, w, rfl, q _ F1 H1 e1 (sv.lay (is := [i, j]) c1)⟩
    | [], hv => rw [hl] at hv; cases hv
    | [_], hv => rw [hl] at hv; cases hv
    | _ :: _ :: _ :: _, hv => rw [hl] at hv; cases hv
  · cases hm2
theorem pms_par3 {i j l : Nat} {x y z : Str} {a b c : Expr} {px py pz pt pos : Pos} {kt k2 pt2} {mx : M (List Slot)} (hc : X.calm = true) (hN : X.N.Nodup) (h : PMX T X [a, b, c] mx) (hi : X.N[i]? = some x := by rfl) (hj : X.N[j]? = some y := by rfl) (hl : X.N[l]? = some z := by rfl) (hij : i ≠ j := by decide) (hil : i ≠ l := by decide) (hjl : j ≠ l := by decide)
    (hx : X.env.scope.names.lookup x = some .local := by rfl) (hy : X.env.scope.names.lookup y = some .local := by rfl) (hz : X.env.scope.names.lookup z = some .local := by rfl)
    (hw : swappedStores [.Tuple [.Name x px, .Name y py, .Name z pz] kt pt] (.Tuple [a, b, c] k2 pt2) X.env = pure (some [x, y, z]) := by rfl)
    (hs : swapsWithSole [.Tuple [.Name x px, .Name y py, .Name z pz] kt pt] (.Tuple [a, b, c] k2 pt2) pos.line X.env = pure false := by rfl) :
    PMS T X (.Assign [.Tuple [.Name x px, .Name y py, .Name z pz] kt pt] (.Tuple [a, b, c] k2 pt2) pos) (parM [i, j, l] mx) := by
  obtain ⟨t, pt', h⟩ := h.ex
  refine ⟨_, ps_par3 hc hN hi hj hl hij hil hjl hx hy hz pt' hw hs, fun dk dc F0 H0 F H σ st st' fl De c hm q => ?_⟩
  obtain ⟨ss, s1, hm1, hm2⟩ := bindM_some hm
  split at hm2
  · rename_i hl
    cases hm2
    refine h dk dc F0 H0 F H σ st s1 ss _ c hm1 fun as vs F1 H1 e1 c1 sv => ?_
    have hv := sv.len
    match vs, hv with
    | [v, w, u], _ => exact ⟨v, w, u, rfl, q _ F1 H1 e1 (sv.lay (is := [i, j, l]) c1)⟩
    | [], hv => rw [hl] at hv; cases hv
    | [_], hv => rw [hl] at hv; cases hv
    | [_, _], hv => rw [hl] at hv; cases hv
    | _ :: _ :: _ :: _ :: _, hv => rw [hl] at hv; cases hv
  · cases hm2
end
end GA

set_option Elab.async false
set_option linter.all false
set_option maxRecDepth 100000
set_option maxHeartbeats 2000000
/-! the law's deck: a dict of the cells, the sum and the count of draws -/
namespace GA
open PySem PySem.Spec PyProof.Rows L2 GenW

section
variable {K : PySem.W.Frag} {T : List Addr} {dk dc : Addr} {F0 H0 F H H' : Hp} {σ : L2.St} {st : Sta} {s' : S}
theorem Cfg.deckTo (c : Cfg K T dk dc F0 H0 F H σ st) (hH : ∀ b, b ≠ dk → b ≠ dc → H' b = H b) (d : DeckAt dk dc F H' s') : Cfg K T dk dc F0 H0 F H' σ { st with s := s' } := by
  obtain ⟨d1, d2, d3, d4⟩ := c.deck
  obtain ⟨k1, k2, k3, k4⟩ := id d
  refine ⟨fun b u e => ?_, ⟨fun b u e m1 m2 m3 => ?_, fun b e => ?_⟩, d, fun P hP => ?_, ⟨c.env.len, c.env.dat, fun i xs h => ?_, fun i xs h => ?_, c.env.apart⟩⟩
  · have n1 : b ≠ dk := fun z => by rw [z, d1.2] at e; cases e
    have n2 : b ≠ dc := fun z => by rw [z, d2] at e; cases e
    rw [hH b n1 n2]; exact c.frz b u e
  · rw [hH b m2 m3]; exact c.base.keep b u e m1 m2 m3
  · have n1 : b ≠ dk := fun z => by rw [z, k3] at e; cases e
    have n2 : b ≠ dc := fun z => by rw [z, k4] at e; cases e
    rw [hH b n1 n2] at e
    exact c.base.there b e
  · obtain ⟨ps, h, ht⟩ := c.tabs P hP
    have n1 : P ≠ dk := fun z => by rw [z, d3] at h; cases h
    have n2 : P ≠ dc := fun z => by rw [z, d4] at h; cases h
    exact ⟨ps, by rw [hH P n1 n2]; exact h, ht⟩
  · obtain ⟨a, vs, h1, h2, h3⟩ := c.env.own i xs h
    exact ⟨a, vs, h1, ⟨h2.fr, by rw [hH a h2.nk h2.nc]; exact h2.at_, h2.new, h2.nk, h2.nc⟩, h3⟩
  · obtain ⟨a, vs, h1, h2, h3⟩ := c.env.ownd i xs h
    exact ⟨a, vs, h1, ⟨h2.fr, by rw [hH a h2.nk h2.nc]; exact h2.at_, h2.new, h2.nk, h2.nc⟩, h3⟩
theorem Cfg.dkdc (c : Cfg K T dk dc F0 H0 F H σ st) : dc ≠ dk := fun z => by
  obtain ⟨_, _, d3, d4⟩ := c.deck
  rw [z, d3] at d4; cases d4
end
/-- the name of the slot i is the deck -/
def deckG (i : Nat) (st : Sta) : Bool := match st.r[i]? with
  | some (.dat (.raw (.ref a))) => decide (a = st.s.dk)
  | _ => false
theorem deckG_some {K : PySem.W.Frag} {T : List Addr} {dk dc : Addr} {F0 H0 F H : Hp} {σ : L2.St} {st : Sta} {i : Nat} (c : Cfg K T dk dc F0 H0 F H σ st) (h : deckG i st = true) : σ[i]? = some (some (.ref dk)) := by
  unfold deckG at h
  split at h
  · rename_i a ha
    obtain ⟨v, h1, h2⟩ := c.env.dat i _ ha
    cases h2
    rw [h1, of_decide_eq_true h, c.deck.1.1]
  · cases h
section
variable {X : Cx} {T : List Addr} {e : Expr} {es : List Expr} {x : Str} {p p2 pos sp apos cpos lp : Pos} {k : Nat} {ma : M D}
theorem pe_fld (hu : X.A.units + 1 < cLine) (i : Nat) (fld : Str) (hs : NoSl (.Constant (.str fld) k p2) := by exact fun _ _ => rfl) (hN : X.N[i]? = some x := by rfl) (hv : Vis X.env.scope x := by first | exact Or.inl rfl | exact Or.inr (Or.inl rfl) | exact Or.inr (Or.inr rfl)) (hd : (x == ("__debug__" : Str)) = false := by decide) (hcd : (x == ("__classdict__" : Str)) = false := by decide) :
    PE X (.Subscript (.Name x p) (.Constant (.str fld) k p2) pos) (tDGet (tVar i) (tC (.str fld))) := pe_dget hu (pe_var hN hv hd hcd) pe_str hs
theorem deck_get {K : PySem.W.Frag} {T : List Addr} {dk dc : Addr} {F0 H0 F H : Hp} {σ : L2.St} {st : Sta} {i : Nat} {fld : Str} {v : V} {Q : VK} (c : Cfg K T dk dc F0 H0 F H σ st) (h : deckG i st = true)
    (hf : valV [(.inr "cells", .ref dc), (.inr "mixed", .int st.s.mixed), (.inr "draws", .int st.s.draws)] (.inr fld : Key) = some v) (q : Q v H) : tDGet (tVar i) (tC (.str fld)) σ H Q := by
  refine ⟨_, deckG_some c h, dk, v, rfl, ?_, q⟩
  have := DGet.k (H := H) (k := .inr fld) c.deck.2.2.1
  rw [hf] at this
  exact this
def drawsM (i : Nat) : M D := fun st => if deckG i st then some (.int st.s.draws, st) else none
def mixedM (i : Nat) : M D := fun st => if deckG i st then some (.int st.s.mixed, st) else none
theorem pm_draws (i : Nat) (hu : X.A.units + 1 < cLine) (hN : X.N[i]? = some x := by rfl) (hv : Vis X.env.scope x := by first | exact Or.inl rfl | exact Or.inr (Or.inl rfl) | exact Or.inr (Or.inr rfl)) (hd : (x == ("__debug__" : Str)) = false := by decide) (hcd : (x == ("__classdict__" : Str)) = false := by decide) :
    PM T X (.Subscript (.Name x p) (.Constant (.str "draws") k p2) pos) (drawsM i) := by
  refine ⟨_, pe_fld hu i "draws" (fun _ _ => rfl) hN hv hd hcd, fun dk dc F0 H0 F H σ st st' d Q c hm q => ?_⟩
  unfold drawsM at hm
  split at hm
  · rename_i h
    cases hm
    exact deck_get c h (by rfl) (q _ F H (Ext.refl F) c (.int _))
  · cases hm
theorem pm_mixed (i : Nat) (hu : X.A.units + 1 < cLine) (hN : X.N[i]? = some x := by rfl) (hv : Vis X.env.scope x := by first | exact Or.inl rfl | exact Or.inr (Or.inl rfl) | exact Or.inr (Or.inr rfl)) (hd : (x == ("__debug__" : Str)) = false := by decide) (hcd : (x == ("__classdict__" : Str)) = false := by decide) :
    PM T X (.Subscript (.Name x p) (.Constant (.str "mixed") k p2) pos) (mixedM i) := by
  refine ⟨_, pe_fld hu i "mixed" (fun _ _ => rfl) hN hv hd hcd, fun dk dc F0 H0 F H σ st st' d Q c hm q => ?_⟩
  unfold mixedM at hm
  split at hm
  · rename_i h
    cases hm
    exact deck_get c h (by rfl) (q _ F H (Ext.refl F) c (.int _))
  · cases hm
/-- deck['draws'] = .. -/
def drawsG (i : Nat) : D → M Unit := fun d st => if deckG i st then (asI d).map fun n => ((), { st with s := { st.s with draws := n } }) else none
theorem pmg_draws (i : Nat) (hu : X.A.units + 1 < cLine) (hN : X.N[i]? = some x := by rfl) (hv : Vis X.env.scope x := by first | exact Or.inl rfl | exact Or.inr (Or.inl rfl) | exact Or.inr (Or.inr rfl)) (hd : (x == ("__debug__" : Str)) = false := by decide) (hcd : (x == ("__classdict__" : Str)) = false := by decide)
    (ha : ∀ v, assign (.Subscript (.Name x p) (.Constant (.str "draws") k p2) pos) X.env v = (do
      let ov ← holding [v] (eval (.Name x p) X.env)
      let iv ← holding [v, ov] (eval (.Constant (.str "draws") k p2) X.env)
      standAt pos
      holding [v, ov, iv] (setItem ov iv v)
      release [v, ov, iv] []) := by intro _; rfl) : PMG T X (.Subscript (.Name x p) (.Constant (.str "draws") k p2) pos) (drawsG i) [] := by
  refine ⟨_, pg_sub (pe_var hN hv hd hcd) pe_str (set_dict hu) ha, fun dk dc F0 H0 F H σ st st' v d Q c rv hm q => ?_⟩
  unfold drawsG at hm
  split at hm
  · rename_i h
    cases d with
    | int n =>
      cases hm
      obtain rfl := rv.int_inv
      obtain ⟨d1, d2, d3, d4⟩ := c.deck
      refine ⟨_, deckG_some c h, dk, _, rfl, DPut.k (k := .inr "draws") d3 (by show 3 < sizeLine; decide), ?_⟩
      refine q σ F _ (Ext.refl F) (c.deckTo (fun b n1 n2 => upd_ne n1) ?_) (Same.refl _ _)
      exact ⟨d1, d2, by rw [upd_same]; rfl, by rw [upd_ne c.dkdc]; exact d4⟩
    | _ => cases hm
  · cases hm
theorem shaped_ints (ns : List Int) : SeqAt.shaped (.list (ns.map .int)) = true := by
  have h1 : ∀ ns : List Int, PyData.canLayAll0 (ns.map .int) = true := fun ns => by
    induction ns with
    | nil => rfl
    | cons n ns ih => show (PyData.canLay0 (.int n) && PyData.canLayAll0 (ns.map .int)) = true; rw [ih]; rfl
  have h2 : ∀ ns : List Int, PyData.depthAll (ns.map .int) ≤ 1 := fun ns => by
    induction ns with
    | nil => show 0 ≤ 1; omega
    | cons n ns ih => show max (PyData.depth (.int n)) (PyData.depthAll (ns.map .int)) ≤ 1; have : PyData.depth (.int n) ≤ 1 := by show _ ≤ 1; simp [PyData.depth]
                      omega
  unfold SeqAt.shaped
  rw [Bool.and_eq_true]
  refine ⟨h1 ns, decide_eq_true ?_⟩
  have := h2 ns
  show PyData.depthAll (ns.map .int) + 1 ≤ 64
  omega
theorem dp_ints {H : Hp} {K : PySem.W.Frag} : ∀ ns : List Int, DpAll K H (ns.map V.int) (ns.map .int)
  | [] => .nil
  | n :: ns => .cons (.int n) (dp_ints ns)
/-- deck['cells'] != [] -/
def cellsT (i : Nat) : M Bool := fun st => if deckG i st then some (!st.s.cells.isEmpty, st) else none
theorem pmt_cells (i : Nat) (hu : X.A.units + 64 < cLine) (hN : X.N[i]? = some x := by rfl) (hv : Vis X.env.scope x := by first | exact Or.inl rfl | exact Or.inr (Or.inl rfl) | exact Or.inr (Or.inr rfl)) (hd : (x == ("__debug__" : Str)) = false := by decide) (hcd : (x == ("__classdict__" : Str)) = false := by decide)
    (hm : behindInMarks .NotEq (.List [] lp) = false := by rfl) : PMT T X (.Compare (.Subscript (.Name x p) (.Constant (.str "cells") k p2) pos) [.NotEq] [.List [] lp] cpos) (cellsT i) := by
  refine ⟨_, pt_cmpR (op_neD hu) (pe_fld (by omega) i "cells" (fun _ _ => rfl) hN hv hd hcd) (pe_lst pa_nil) hm, fun dk dc F0 H0 F H σ st st' b Q c hm q => ?_⟩
  unfold cellsT at hm
  split at hm
  · rename_i h
    cases hm
    refine deck_get (v := .ref dc) c h (by rfl) ⟨Nat.zero_le _, fun p hp => ?_⟩
    have g := Grow.mine (o := .lst []) c.frz hp
    have c2 := c.grow g
    refine ⟨.list (st.s.cells.map .int), .list [], .lst (.inl (.inl c2.deck.2.2.2)) (dp_ints _), .lst (.inl (.inl upd_same)) .nil, shaped_ints _, by decide, _, rfl, ?_⟩
    have e : (!PyData.eqv (.list (st.s.cells.map .int)) (.list [])) = !st.s.cells.isEmpty := by
      cases st.s.cells with
      | nil => rfl
      | cons a b => rfl
    rw [e]
    exact q F _ (Ext.refl F) c2
  · cases hm
/-- deck['cells'].pop(), .append(e) -/
def cellsPopM (i : Nat) : M D := fun st => if deckG i st then (st.s.cells[st.s.cells.length - 1]?).map fun n => (.int n, { st with s := { st.s with cells := st.s.cells.dropLast } }) else none
theorem pm_cellsPop (i : Nat) (hu : X.A.units + 1 < cLine) (hN : X.N[i]? = some x := by rfl) (hv : Vis X.env.scope x := by first | exact Or.inl rfl | exact Or.inr (Or.inl rfl) | exact Or.inr (Or.inr rfl)) (hd : (x == ("__debug__" : Str)) = false := by decide) (hcd : (x == ("__classdict__" : Str)) = false := by decide)
    (hbase : attributeBase (.Subscript (.Name x p) (.Constant (.str "cells") k p2) pos) "pop" X.env (eval (.Subscript (.Name x p) (.Constant (.str "cells") k p2) pos) X.env) = eval (.Subscript (.Name x p) (.Constant (.str "cells") k p2) pos) X.env := by rfl) (hline : (apos.endLine == cpos.line) = true := by rfl) :
    PM T X (.Call (.Attribute (.Subscript (.Name x p) (.Constant (.str "cells") k p2) pos) "pop" apos) [] [] cpos) (cellsPopM i) := by
  refine ⟨_, pe_bm0 PySem.F.plainAttrs_list PySem.F.slot_list_pop PySem.F.type_list_pop mt_pop (pe_fld hu i "cells" (fun _ _ => rfl) hN hv hd hcd) hbase hline, fun dk dc F0 H0 F H σ st st' d Q c hm q => ?_⟩
  unfold cellsPopM at hm
  split at hm
  · rename_i h
    cases he : st.s.cells[st.s.cells.length - 1]? with
    | none => rw [he] at hm; cases hm
    | some n =>
      rw [he] at hm
      cases hm
      obtain ⟨d1, d2, d3, d4⟩ := c.deck
      refine deck_get (v := .ref dc) c h (by rfl) ⟨.inl ⟨rfl, _, .inl (.inl d4)⟩, dc, _, .int n, rfl, rfl, d4, ?_, ?_⟩
      · rw [List.length_map, List.getElem?_map, he]; rfl
      · refine q _ F _ (Ext.refl F) (c.deckTo (fun b n1 n2 => upd_ne n2) ?_) (.int _)
        exact ⟨d1, d2, by rw [upd_ne (Ne.symm c.dkdc)]; exact d3, by rw [upd_same, ← List.map_dropLast]⟩
  · cases hm
def cellsAppM (i : Nat) (me : M D) : M D := fun st => if deckG i st then match me st with
    | some (.int n, s1) => if deckG i s1 ∧ s1.s.cells.length < sizeLine then some (.non, { s1 with s := { s1.s with cells := s1.s.cells ++ [n] } }) else none
    | _ => none
  else none
theorem pm_cellsApp (i : Nat) (hu : X.A.units + 1 < cLine) (h : PM T X e ma) (hN : X.N[i]? = some x := by rfl) (hv : Vis X.env.scope x := by first | exact Or.inl rfl | exact Or.inr (Or.inl rfl) | exact Or.inr (Or.inr rfl)) (hd : (x == ("__debug__" : Str)) = false := by decide) (hcd : (x == ("__classdict__" : Str)) = false := by decide)
    (hbase : attributeBase (.Subscript (.Name x p) (.Constant (.str "cells") k p2) pos) "append" X.env (eval (.Subscript (.Name x p) (.Constant (.str "cells") k p2) pos) X.env) = eval (.Subscript (.Name x p) (.Constant (.str "cells") k p2) pos) X.env := by rfl)
    (hfew : ((backTo cpos (starEach [e] X.env)).all (fun x => !x.1) && (backToKw cpos (keywordEach [] X.env)).all (fun x => x.1.isSome)
      && decide ([e].length + ([] : List Keyword).length + (if ([] : List Keyword).isEmpty then 0 else 1) < 30)) = true := by rfl)
    (hline : (apos.endLine == cpos.line) = true := by rfl) (hs : starEach [e] X.env = (false, eval e X.env) :: starEach [] X.env := by rfl) (hplain : (backTo cpos (starEach [] X.env)).any (·.1) = false := by rfl) :
    PM T X (.Call (.Attribute (.Subscript (.Name x p) (.Constant (.str "cells") k p2) pos) "append" apos) [e] [] cpos) (cellsAppM i ma) := by
  obtain ⟨t, pt, h⟩ := h.ex
  refine ⟨_, pe_bm PySem.F.plainAttrs_list PySem.F.slot_list_append PySem.F.type_list_append mt_append (pe_fld hu i "cells" (fun _ _ => rfl) hN hv hd hcd) (pa_cons pt pa_nil hs) hbase hfew hline hs hplain, fun dk dc F0 H0 F H σ st st' d Q c hm q => ?_⟩
  unfold cellsAppM at hm
  split at hm
  · rename_i hg
    split at hm
    · rename_i n s1 hme
      split at hm
      · rename_i hg2
        cases hm
        obtain ⟨d1, d2, d3, d4⟩ := c.deck
        refine deck_get (v := .ref dc) c hg (by rfl) ⟨.inl ⟨rfl, _, .inl (.inl d4)⟩, ?_⟩
        refine h dk dc F0 H0 F H σ st s1 _ _ c hme fun v F1 H1 e1 c1 r1 => ?_
        obtain rfl := r1.int_inv
        obtain ⟨k1, k2, k3, k4⟩ := c1.deck
        refine ⟨dc, _, _, rfl, rfl, k4, by rw [List.length_map]; exact hg2.2, q _ F1 _ e1 (c1.deckTo (fun b n1 n2 => upd_ne n2) ?_) .non⟩
        exact ⟨k1, k2, by rw [upd_ne (Ne.symm c1.dkdc)]; exact k3, by rw [upd_same, List.map_append]; rfl⟩
      · cases hm
    · cases hm
  · cases hm
end
end GA

set_option Elab.async false
set_option linter.all false
set_option maxRecDepth 100000
set_option maxHeartbeats 2000000
/-! words for the derivations -/
namespace GA
open PySem PySem.Spec PyProof.Rows L2 GenW

def negM (m : M D) : M D := bindM m fun d => liftM ((asI d).map fun i => .int (-i))
def turnD : D → Option D
  | .tup _ ds => some (.tup false ds.reverse)
  | .lst ds => some (.lst ds.reverse)
  | _ => none
def turnDM (m : M D) : M D := bindM m fun d => liftM (turnD d)
def partM (m : M D) : M (Option Int) := bindM m fun d => liftM ((asI d).map some)
def slM (a : M D) (l h : M (Option Int)) : M D := bindM a fun d => bindM l fun i => bindM h fun j => liftM (slD d i j)
def countM (a : M D) (ml : M (List D)) : M D := bindM a fun d => bindM ml fun l => liftM (cntD d l)
def pickM (is : List Nat) (ml : M (List D)) : M (List D) := bindM ml fun ds => pureM (pickL is ds)
def ownLenM (i : Nat) : M D := fun st => (ownOf st i).map fun xs => (.int xs.length, st)
def ofLM (ml : M (List D)) : M D := bindM ml fun ds => pureM (.lst ds)
def itM (f : List D → Option (List D)) (ml : M (List D)) : M (List D) := bindM ml fun l => liftM (f l)
def tupRgM (m : M D) : M D := bindM m fun d => liftM ((rgD d).map (.tup false))
def listRgM (m : M D) : M (List D) := bindM m fun d => liftM (rgD d)
def xDat (m : M D) (r : M (List Slot)) : M (List Slot) := bindM m fun d => bindM r fun ss => pureM (.dat d :: ss)
def xOwn (m : M (List D)) (r : M (List Slot)) : M (List Slot) := bindM m fun xs => bindM r fun ss => pureM (.own xs :: ss)
def xDict (r : M (List Slot)) : M (List Slot) := bindM r fun ss => pureM (.ownd [] :: ss)
def repL : D → D → Option (List D)
  | .lst xs, .int k => if -(2 ^ 63) ≤ k ∧ k < 2 ^ 63 ∧ xs.length * k.toNat ≤ sizeLine then some (List.replicate k.toNat xs).flatten else none
  | _, _ => none
def repLM (a b : M D) : M (List D) := bindM a fun x => bindM b fun y => liftM (repL x y)
def powD := iiCD (fun i j => decide (0 ≤ j ∧ j ≤ 1000000 ∧ i.natAbs < 2 ^ 64)) fun i j => .int (i ^ j.toNat)
theorem od_pow {K : PySem.W.Frag} : OpD K (rI CPow fun i j => .int (i ^ j.toNat)) powD := od_iiC (fun i j h => (show 0 ≤ j ∧ j ≤ 1000000 ∧ i.natAbs < 2 ^ 64 from of_decide_eq_true h)) fun _ _ _ => .int _
def max2D : List D → Option D
  | [.int i, .int j] => some (.int (if j > i then j else i))
  | _ => none
theorem cd_max2 {K : PySem.W.Frag} : CallD K (fun xs H Q => ∃ i j, xs = [.int i, .int j] ∧ Q (.int (if j > i then j else i)) H) max2D := by
  intro F H xs ds d Q z r hf q
  unfold max2D at hf
  split at hf
  · cases hf
    obtain ⟨v, w, rfl, r1, r2⟩ := r.two_inv
    obtain rfl := r1.int_inv
    obtain rfl := r2.int_inv
    exact ⟨_, _, rfl, q _ F H (Grow.refl z) (.int _)⟩
  · cases hf
/-- truths in a list -/
def blsD : List D → Option (List Bool)
  | [] => some []
  | .bl b :: r => (blsD r).map (b :: ·)
  | _ :: _ => none
theorem blsD_map : ∀ {ds : List D} {ns : List Bool}, blsD ds = some ns → ds = ns.map .bl
  | [], _, h => by cases h; rfl
  | .bl i :: r, _, h => by
    unfold blsD at h
    cases q : blsD r with
    | none => rw [q] at h; cases h
    | some ms => rw [q] at h; cases h; rw [blsD_map q]; rfl
  | .non :: _, _, h => by cases h
  | .int _ :: _, _, h => by cases h
  | .str _ :: _, _, h => by cases h
  | .tup .. :: _, _, h => by cases h
  | .lst _ :: _, _, h => by cases h
  | .raw _ :: _, _, h => by cases h
  | .rg _ _ :: _, _, h => by cases h
theorem Reps.bls {K : PySem.W.Frag} {F : Hp} : ∀ {ns : List Bool} {vs : List V}, Reps K F vs (ns.map .bl) → vs = ns.map .bl
  | [], _, r => by cases r; rfl
  | n :: ns, _, r => by
    cases r with
    | cons a b => rw [a.bl_inv, Reps.bls b]; rfl
def allD : List D → Option D
  | [.lst ds] => (blsD ds).map fun bs => .bl (bs.all id)
  | _ => none
theorem cd_all {K : PySem.W.Frag} : CallD K (rAll K) allD := by
  intro F H xs ds d Q z r hf q
  unfold allD at hf
  split at hf
  · rename_i es
    obtain ⟨v, rfl, r1⟩ := r.one_inv
    obtain ⟨p, vs, rfl, hp, r2⟩ := r1.lst_inv
    cases hi : blsD es with
    | none => rw [hi] at hf; cases hf
    | some ns =>
      rw [hi] at hf
      cases hf
      have e := blsD_map hi
      subst e
      have := r2.bls
      subst this
      exact ⟨p, ns, rfl, z.sqL hp, q _ F H (Grow.refl z) (.bl _)⟩
  · cases hf
theorem gscp_by {scope : Scope} (h : (!scope.isCoroutine && scope.names.all (fun y => decide (y.2 ≠ NameKind.cell)) && decide (scope.names.lookup (".0" : Str) = some NameKind.local)) = true) : GScp scope := by
  rw [Bool.and_eq_true, Bool.and_eq_true] at h
  exact ⟨by simpa using h.1.1, fun y hy => of_decide_eq_true (List.all_eq_true.mp h.1.2 y hy), of_decide_eq_true h.2⟩
section
variable {X : Cx} {T : List Addr} {e ea eb : Expr} {ma mb : M D} {pos p2 : Pos}
theorem pe_or {t1 t2 : TE} (h1 : PE X e t1) (h2 : PE X e t2) : PE X e (fun σ H Q => t1 σ H Q ∨ t2 σ H Q) := ⟨fun pins s σ H Q I h => h.elim (h1.run pins s σ H Q I) (h2.run pins s σ H Q I)⟩
theorem pm_turn {k : Nat} {p1 p3 : Pos} (a : PM T X ea ma) : PM T X (.Subscript ea (.Slice none none (some (.UnaryOp .USub (.Constant (.int 1) k p1) p2)) p3) pos) (turnDM ma) := by
  obtain ⟨ta, pa, ha⟩ := a.ex
  refine ⟨_, pe_or (pe_revL pa) (pe_turnT pa), fun dk dc F0 H0 F H σ st st' ds Q c hm q => ?_⟩
  obtain ⟨d0, s1, hm1, hm2⟩ := bindM_some hm
  obtain ⟨hd, rfl⟩ := liftM_some hm2
  unfold turnD at hd
  split at hd
  · cases hd
    refine .inr (ha dk dc F0 H0 F H σ st _ _ _ c hm1 fun v F1 H1 e1 c1 r1 => ?_)
    obtain ⟨p, vs, rfl, hp, r2⟩ := r1.tup_inv
    refine ⟨p, vs, rfl, c1.frz.sqT hp, fun l hln => ?_⟩
    obtain ⟨F4, g, r5⟩ := new_tup (K := X.K) c1.frz hln r2.rev
    exact q _ _ _ (e1.trans (g.ext c1.frz)) (c1.grow g) r5
  · cases hd
    refine .inl (ha dk dc F0 H0 F H σ st _ _ _ c hm1 fun v F1 H1 e1 c1 r1 => ?_)
    obtain ⟨p, vs, rfl, hp, r2⟩ := r1.lst_inv
    refine ⟨p, vs, rfl, c1.frz.sqL hp, fun l hln => ?_⟩
    obtain ⟨F4, g, r5⟩ := new_lst (K := X.K) c1.frz hln r2.rev
    exact q _ _ _ (e1.trans (g.ext c1.frz)) (c1.grow g) r5
  · cases hd
/-- [..] * n as a new list -/
theorem pml_rep (a : PM T X ea ma) (b : PM T X eb mb) : PML T X (.BinOp ea .Mult eb pos) (repLM ma mb) := by
  obtain ⟨ta, pa, ha⟩ := a.ex
  obtain ⟨tb, pb, hb⟩ := b.ex
  refine ⟨_, pe_op op_rep pa pb, fun dk dc F0 H0 F H σ st st' ds Q c hm q => ?_⟩
  obtain ⟨d0, s1, hm1, hm⟩ := bindM_some hm
  obtain ⟨d1, s2, hm2, hm3⟩ := bindM_some hm
  obtain ⟨hd, rfl⟩ := liftM_some hm3
  refine ha dk dc F0 H0 F H σ st _ _ _ c hm1 fun v F1 H1 e1 c1 r1 => hb dk dc F0 H0 F1 H1 σ s1 _ _ _ c1 hm2 fun w F2 H2 e2 c2 r2 => ?_
  unfold repL at hd
  split at hd
  · split at hd
    · rename_i xs k hl
      cases hd
      obtain ⟨p, vs, rfl, hp, r3⟩ := (r1.ext e2).lst_at
      obtain rfl := r2.int_inv
      refine ⟨p, k, vs, rfl, rfl, (c2.frz _ _ hp).1, hl.1, hl.2.1, by rw [r3.length]; exact hl.2.2, fun l hln => ?_⟩
      have r4 := r3.rep k.toNat
      refine q l _ F2 H2 (e1.trans e2) c2 hln r4 ?_
      rw [r4.length]
      have : ∀ n, ((List.replicate n xs).flatten).length = xs.length * n := fun n => by simp [Nat.mul_comm]
      rw [this]; exact hl.2.2
    · cases hd
  · cases hd
end
end GA

set_option Elab.async false
set_option linter.all false
set_option maxRecDepth 100000
set_option maxHeartbeats 2000000
/-! while, x += e, dict(pairs), index -/
namespace GA
open PySem PySem.Spec PyProof.Rows L2 GenW

/-- an own list that is changed no more is a datum -/
theorem Cfg.freeze {K : PySem.W.Frag} {T : List Addr} {dk dc : Addr} {F0 H0 F H : Hp} {σ : L2.St} {st : Sta} {i : Nat} {xs : List D} (c : Cfg K T dk dc F0 H0 F H σ st) (hx : st.r[i]? = some (.own xs)) : ∃ F', Ext F F' ∧ Cfg K T dk dc F0 H0 F' H σ { st with r := st.r.set i (.dat (.lst xs)) } := by
    obtain ⟨a, vs, h1, h2, h3⟩ := c.env.own i _ hx
    have en : Ext F (upd F a (.lst vs)) := Ext.new h2.fr
    have ea : ∀ b, b ≠ a → upd F a (.lst vs) b = F b := fun b hb => upd_ne hb
    have rd : Rep K (upd F a (.lst vs)) (.ref a) (.lst xs) := .lst upd_same (h3.ext en)
    refine ⟨upd F a (.lst vs), en, ?_⟩
    obtain ⟨d1, d2, d3, d4⟩ := c.deck
    have e2 : EnvOk K dk dc H0 (upd F a (.lst vs)) H (σ.set i (some (.ref a))) (st.r.set i (.dat (.lst xs))) := by
      have il : i < σ.length := (List.getElem?_eq_some_iff.mp h1).1
      have ir : i < st.r.length := (List.getElem?_eq_some_iff.mp hx).1
      -- all others
      have oth : ∀ (j : Nat) y, (st.r.set i (.dat (.lst xs)))[j]? = some y → (i = j ∧ y = .dat (.lst xs)) ∨ (i ≠ j ∧ st.r[j]? = some y) := fun j y hj => by
        by_cases q : i = j
        · subst q
          rw [List.getElem?_set_self ir] at hj
          cases hj
          exact .inl ⟨rfl, rfl⟩
        · rw [List.getElem?_set_ne q] at hj
          exact .inr ⟨q, hj⟩
      have mine' : ∀ (j : Nat) y b o, i ≠ j → st.r[j]? = some y → (∀ d, y ≠ .dat d) → y ≠ .un → σ[j]? = some (some (.ref b)) → Mine dk dc H0 F H b o → Mine dk dc H0 (upd F a (.lst vs)) H b o := fun j y b o q hy n1 n2 hs mm => by
        have nb : b ≠ a := fun z => by
          subst z
          exact c.env.apart i j b q ⟨_, hx, fun d z => (by cases z), fun z => (by cases z)⟩ ⟨y, hy, n1, n2⟩ h1 hs
        exact ⟨by rw [ea b nb]; exact mm.fr, mm.at_, mm.new, mm.nk, mm.nc⟩
      refine ⟨by rw [List.length_set, List.length_set]; exact c.env.len, fun j y hj => ?_, fun j y hj => ?_, fun j y hj => ?_, fun j l b hjl q1 q2 q3 => ?_⟩
      · rcases oth j _ hj with ⟨q, z⟩ | ⟨q, hj⟩
        · subst q
          cases z
          exact ⟨.ref a, List.getElem?_set_self il, rd⟩
        · obtain ⟨v, z1, z2⟩ := c.env.dat j y hj
          exact ⟨v, by rw [List.getElem?_set_ne q]; exact z1, z2.ext en⟩
      · rcases oth j _ hj with ⟨q, z⟩ | ⟨q, hj⟩
        · cases z
        · obtain ⟨b, ws, z1, z2, z3⟩ := c.env.own j y hj
          exact ⟨b, ws, by rw [List.getElem?_set_ne q]; exact z1, mine' j _ b _ q hj (fun d z => (by cases z)) (fun z => (by cases z)) z1 z2, z3.ext en⟩
      · rcases oth j _ hj with ⟨q, z⟩ | ⟨q, hj⟩
        · cases z
        · obtain ⟨b, ws, z1, z2, z3, z4⟩ := c.env.ownd j y hj
          exact ⟨b, ws, by rw [List.getElem?_set_ne q]; exact z1, mine' j _ b _ q hj (fun d z => (by cases z)) (fun z => (by cases z)) z1 z2, z3.ext en, z4⟩
      · obtain ⟨y, g1, g2, g3⟩ := q1
        obtain ⟨y', k1, k2, k3⟩ := q2
        rcases oth j _ g1 with ⟨_, z⟩ | ⟨n1, g1⟩
        · exact absurd z (g2 _)
        rcases oth l _ k1 with ⟨_, z⟩ | ⟨n2, k1⟩
        · exact absurd z (k2 _)
        rw [List.getElem?_set_ne n1] at q3
        rw [List.getElem?_set_ne n2]
        exact c.env.apart j l b hjl ⟨y, g1, g2, g3⟩ ⟨y', k1, k2, k3⟩ q3
    have es : σ.set i (some (.ref a)) = σ := by
      apply List.ext_getElem?
      intro j
      by_cases q : i = j
      · subst q
        rw [List.getElem?_set_self (List.getElem?_eq_some_iff.mp h1).1, h1]
      · rw [List.getElem?_set_ne q]
    rw [es] at e2
    refine ⟨fun b o e => ?_, ⟨fun b o e n1 n2 n3 => ?_, c.base.there⟩, ⟨?_, ?_, d3, d4⟩, c.tabs, e2⟩
    · by_cases hb : b = a
      · subst hb
        rw [upd_same] at e
        cases e
        exact ⟨h2.at_, fun ps z => (by cases z)⟩
      · rw [ea b hb] at e
        exact c.frz b o e
    · have nb : b ≠ a := fun z => by
        rw [z, h2.new] at e
        cases e
      rw [ea b nb]
      exact c.base.keep b o e n1 n2 n3
    · rw [ea dk (Ne.symm h2.nk)]; exact d1
    · rw [ea dc (Ne.symm h2.nc)]; exact d2
def frzM {α : Type} (i : Nat) (m : M α) : M α := fun st => match st.r[i]? with
  | some (.own xs) => m { st with r := st.r.set i (.dat (.lst xs)) }
  | _ => m st
theorem pmss_frz {X : Cx} {T : List Addr} {ss : List Stmt} {m : M Fl} (i : Nat) (h : PMSs T X ss m) : PMSs T X ss (frzM i m) := by
  obtain ⟨t, p, h⟩ := h.ex
  refine ⟨t, p, fun dk dc F0 H0 F H σ st st' fl De c hm a => ?_⟩
  unfold frzM at hm
  split at hm
  · rename_i xs hx
    obtain ⟨F', e, c'⟩ := c.freeze hx
    exact h dk dc F0 H0 F' H σ _ st' fl De c' hm (a.mono e)
  · exact h dk dc F0 H0 F H σ st st' fl De c hm a
/-- a while of at most n turns -/
def whileN : Nat → M Bool → M Fl → M Fl
  | 0, _, _ => fun _ => none
  | n + 1, c, b => bindM c fun k => if k then bindM b fun fl => match fl with
    | .nx => whileN n c b
    | .ct => whileN n c b
    | .bk => pureM .nx
    | .rt d => pureM (.rt d) else pureM .nx
section
variable {X : Cx} {T : List Addr} {e ea eb : Expr} {es : List Expr} {ma mb : M D} {t1 : M Bool} {m1 : M Fl} {pos : Pos} {ml : M (List D)}
theorem pms_while (n : Nat) {body : List Stmt} (hp : PassesOwn (model X.prog X.w) X.A X.env X.xe) (hc : PMT T X e t1) (hb : PMSs T X body m1) : PMS T X (.While e body [] pos) (whileN n t1 m1) := by
  obtain ⟨tc, pc, hc⟩ := hc.ex
  obtain ⟨tb, pb, hb⟩ := hb.ex
  refine ⟨_, ps_while hp pc pb, fun dk dc F0 H0 F H σ st st' fl De c hm a => ?_⟩
  refine ⟨fun m σ' H' => ∃ F' s', Ext F F' ∧ Cfg X.K T dk dc F0 H0 F' H' σ' s' ∧ whileN m t1 m1 s' = some (fl, st'), ⟨n, F, st, Ext.refl F, c, hm⟩, ?_⟩
  rintro m σ1 H1 ⟨F1, s1, e1, c1, hw⟩
  cases m with
  | zero => cases hw
  | succ m =>
    obtain ⟨k, s2, hm1, hm2⟩ := bindM_some hw
    refine hc dk dc F0 H0 F1 H1 σ1 s1 s2 k _ c1 hm1 fun F2 H2 e2 c2 => ?_
    cases k with
    | true =>
      simp only [if_true] at hm2 ⊢
      obtain ⟨f1, s3, hm3, hm4⟩ := bindM_some hm2
      refine ⟨fun σ' H' => ∃ F' s', Ext F F' ∧ Cfg X.K T dk dc F0 H0 F' H' σ' s' ∧ whileN m t1 m1 s' = some (fl, st'), fun σ' H' h => ⟨m, Nat.lt_succ_self m, h⟩, ?_⟩
      have ee : Ext F F2 := e1.trans e2
      refine hb dk dc F0 H0 F2 H2 σ1 s2 s3 f1 _ c2 hm3 ?_
      cases f1 with
      | nx => exact fun σ4 F4 H4 e4 c4 => ⟨F4, s3, ee.trans e4, c4, hm4⟩
      | ct => exact fun σ4 F4 H4 e4 c4 => ⟨F4, s3, ee.trans e4, c4, hm4⟩
      | bk =>
        obtain ⟨rfl, rfl⟩ := pureM_some hm4
        exact fun σ4 F4 H4 e4 c4 => a σ4 F4 H4 (ee.trans e4) c4
      | rt d =>
        obtain ⟨rfl, rfl⟩ := pureM_some hm4
        exact fun v F4 H4 e4 o4 r4 => a v F4 H4 (ee.trans e4) o4 r4
    | false =>
      simp only [Bool.false_eq_true, if_false] at hm2 ⊢
      obtain ⟨rfl, rfl⟩ := pureM_some hm2
      exact a σ1 F2 H2 (e1.trans e2) c2
/-! x += e -/
def IpD (K : PySem.W.Frag) (ti : TIp) (f : D → D → Option D) : Prop := ∀ (F H : Hp) (x y : V) (a b d : D) (Q : VK), Frz F H → Rep K F x a → Rep K F y b → f a b = some d →
  (∀ v F' H', Grow F H F' H' → Rep K F' v d → Q v H') → ti x y H Q
/-- the name's datum, read first, then e -/
def augM (i : Nat) (f : D → D → Option D) (m : M D) : M Fl := fun st => match st.r[i]? with
  | some (.dat x) => bindM m (fun y => bindM (liftM (f x y)) fun z => bindM (tgN i z) fun _ => pureM .nx) st
  | _ => none
theorem pms_aug (i : Nat) {x : Str} {pos' : Pos} {op : Operator} {ti : TIp} {f : D → D → Option D} (ho : PIp X op ti) (hf : IpD X.K ti f) (h : PM T X e ma) (hN : X.N.Nodup) (hi : X.N[i]? = some x := by rfl) (hx : Loc X.env.scope x := by first | exact .inl rfl | exact .inr rfl)
    (hfn : X.fn x = true ∨ X.env.scope.names.lookup x = some .local := by first | exact .inl rfl | exact .inr rfl | assumption) : PMS T X (.AugAssign (.Name x pos') op e pos) (augM i f ma) := by
  obtain ⟨t, p, h⟩ := h.ex
  refine ⟨_, ps_aug hN hi hx p ho hfn, fun dk dc F0 H0 F H σ st st' fl De c hm a => ?_⟩
  unfold augM at hm
  split at hm
  · rename_i xd hxd
    obtain ⟨y, s1, hm1, hm2⟩ := bindM_some hm
    obtain ⟨z, s2, hm3, hm4⟩ := bindM_some hm2
    obtain ⟨hz, rfl⟩ := liftM_some hm3
    obtain ⟨u, s3, hm5, hm6⟩ := bindM_some hm4
    obtain ⟨rfl, rfl⟩ := pureM_some hm6
    obtain ⟨v, hv, rv⟩ := c.env.dat i xd hxd
    refine ⟨v, hv, h dk dc F0 H0 F H σ st _ y _ c hm1 fun w F1 H1 e1 c1 r1 => ?_⟩
    refine hf F1 H1 v w xd y z _ c1.frz (rv.ext e1) r1 hz fun zz F2 H2 g2 r2 => ?_
    cases hm5
    have c2 := c1.grow g2
    exact a _ F2 H2 (e1.trans (g2.ext c1.frz)) ⟨c2.frz, c2.base, c2.deck, c2.tabs, c2.env.set r2⟩
  · cases hm
theorem ipd_i {K : PySem.W.Frag} {g : Int → Int → Int} : IpD K (ipI g) (iiD fun i j => .int (g i j)) := by
  intro F H x y a b d Q z ra rb hf q
  unfold iiD at hf
  split at hf
  · cases hf
    obtain rfl := ra.int_inv
    obtain rfl := rb.int_inv
    exact ⟨_, _, rfl, rfl, q _ F H (Grow.refl z) (.int _)⟩
  · cases hf
def addI := iiD fun i j => .int (i + j)
def subI := iiD fun i j => .int (i - j)
/-! a new dict as a name's own -/
structure PMD (T : List Addr) (X : Cx) (e : Expr) (m : M (List (Key × D))) : Prop where
  ex : ∃ t : TE, PE X e t ∧ ∀ (dk dc : Addr) (F0 H0 F H : Hp) (σ : L2.St) (st st' : Sta) (kvs : List (Key × D)) (Q : VK), Cfg X.K T dk dc F0 H0 F H σ st → m st = some (kvs, st') →
    (∀ p vs F1 H1, Ext F F1 → Cfg X.K T dk dc F0 H0 F1 H1 σ st' → H1 p = none → KR X.K F1 vs kvs → Q (.ref p) (upd H1 p (.dK vs))) → t σ H Q
def ownDM (i : Nat) (m : M (List (Key × D))) : M Fl := bindM m fun kvs => fun st => some (.nx, { st with r := st.r.set i (.ownd kvs) })
theorem pms_ownD (i : Nat) {x : Str} {pos' : Pos} {mk : M (List (Key × D))} (h : PMD T X e mk) (hN : X.N.Nodup) (hi : X.N[i]? = some x := by rfl) (hx : Loc X.env.scope x := by first | exact .inl rfl | exact .inr rfl) (hs : swapsWith e (some (.Name x pos')) pos.line X.env = pure false := by rfl)
    (hf : X.fn x = true ∨ X.env.scope.names.lookup x = some .local := by first | exact .inl rfl | exact .inr rfl | assumption) : PMS T X (.Assign [.Name x pos'] e pos) (ownDM i mk) := by
  obtain ⟨t, p, h⟩ := h.ex
  refine ⟨_, ps_set hN hi hx p hs hf, fun dk dc F0 H0 F H σ st st' fl De c hm a => ?_⟩
  obtain ⟨ds, s2, hm1, hm2⟩ := bindM_some hm
  cases hm2
  refine h dk dc F0 H0 F H σ st s2 ds _ c hm1 fun p vs F1 H1 e1 c1 hp r1 => ?_
  have c2 := c1.grow (Grow.mine (o := .dK vs) c1.frz hp)
  refine a _ F1 _ e1 ⟨c2.frz, c2.base, c2.deck, c2.tabs, c2.env.setOwn (.inr ⟨ds, vs, rfl, c1.mine_new hp, r1.vals.1, r1.vals.2.1⟩) fun j y hj hy n1 n2 hs => ?_⟩
  cases y with
  | un => exact n2 rfl
  | dat d => exact n1 d rfl
  | own xs =>
    obtain ⟨b, ws, z1, z2, _⟩ := c1.env.own j xs hy
    rw [z1] at hs; cases hs
    have := z2.at_
    rw [hp] at this; cases this
  | ownd xs =>
    obtain ⟨b, ws, z1, z2, _⟩ := c1.env.ownd j xs hy
    rw [z1] at hs; cases hs
    have := z2.at_
    rw [hp] at this; cases this
/-- the pairs of keys and values -/
def pairsD : List D → Option (List (Key × D))
  | [] => some []
  | .tup _ [k, d] :: r => (keyD k).bind fun j => (pairsD r).map ((j, d) :: ·)
  | _ :: _ => none
def mergeP (kvs more : List (Key × D)) : List (Key × D) := more.foldl (fun acc kv => putP acc kv.1 kv.2) kvs
theorem KR.merge {K : PySem.W.Frag} {F : Hp} : ∀ {vs : List (Key × V)} {ds : List (Key × D)} {as : List (Key × V)} {bs : List (Key × D)}, KR K F vs ds → KR K F as bs → KR K F (mergeK as vs) (mergeP bs ds)
  | _, _, _, _, .nil, r => r
  | _, _, _, _, .cons h t, r => by
    show KR K F (mergeK (putK _ _ _) _) (mergeP (putP _ _ _) _)
    exact t.merge (r.put h)
theorem pairs_rep {K : PySem.W.Frag} {F H : Hp} (z : Frz F H) : ∀ {ds : List D} {vs : List V} {kvs : List (Key × D)}, Reps K F vs ds → pairsD ds = some kvs → ∃ (ps : List Addr) (ws : List (Key × V)), vs = ps.map V.ref ∧ Paired (fun p kv => SqT K H p [kV kv.1, kv.2]) ps ws ∧ KR K F ws kvs
  | [], _, _, r, h => by cases r; cases h; exact ⟨[], [], rfl, .nil, .nil⟩
  | d :: ds, _, kvs, r, h => by
    cases r with
    | cons r1 r2 =>
      unfold pairsD at h
      split at h
      · rename_i h0; cases h0
      · rename_i b k d' r' heq
        cases heq
        cases hk : keyD k with
        | none => rw [hk] at h; cases h
        | some j =>
          rw [hk] at h
          cases hp : pairsD ds with
          | none => simp only [Option.bind_some] at h; rw [hp] at h; cases h
          | some kvs' =>
            simp only [Option.bind_some] at h
            rw [hp] at h
            cases h
            obtain ⟨ps, ws, rfl, pr, kr⟩ := pairs_rep z r2 hp
            obtain ⟨p, xs, rfl, hq, rx⟩ := r1.tup_inv
            obtain ⟨v, w, rfl, r3, r4⟩ := rx.two_inv
            have := key_v r3 hk
            subst this
            exact ⟨p :: ps, (j, w) :: ws, rfl, .cons (z.sqT hq) pr, .cons r4 kr⟩
      · cases h
def dictPM (ml : M (List D)) : M (List (Key × D)) := bindM ml fun ds => liftM (match ds with | [.lst es] => (pairsD es).map (mergeP []) | _ => none)
theorem pmd_pairs {p : Pos} {x : Str} (hc : X.calm = true) (hg : Gl X x) (hm : X.mg x = none) (ha : PMA T X [e] ml) (hv : bootBuiltins x = some (.type "dict") := by decide +kernel) (hn : x ≠ "__name__" := by decide) (hdb : (x == ("__debug__" : Str)) = false := by decide)
    (he : starEach [e] X.env = (false, eval e X.env) :: starEach [] X.env := by rfl) (hpl : (backTo pos (starEach [] X.env)).any (·.1) = false := by rfl) : PMD T X (.Call (.Name x p) [e] [] pos) (dictPM ml) := by
  obtain ⟨t, pt, h⟩ := ha.ex
  refine ⟨_, pe_callTy (call_dictP hc) hg hm hv pt hn hdb he hpl, fun dk dc F0 H0 F H σ st st' d Q c hm q => ?_⟩
  obtain ⟨ds, s1, hm1, hm2⟩ := bindM_some hm
  obtain ⟨hf', rfl⟩ := liftM_some hm2
  refine h dk dc F0 H0 F H σ st _ ds _ c hm1 fun vs F1 H1 e1 c1 r1 => ?_
  split at hf'
  · rename_i es
    obtain ⟨v, rfl, r2⟩ := r1.one_inv
    obtain ⟨a, xs, rfl, hq, r3⟩ := r2.lst_inv
    cases hp : pairsD es with
    | none => rw [hp] at hf'; cases hf'
    | some kvs =>
      rw [hp] at hf'
      cases hf'
      obtain ⟨ps, ws, rfl, pr, kr⟩ := pairs_rep c1.frz r3 hp
      exact ⟨a, ps, ws, rfl, c1.frz.sqL hq, pr, fun l hl => q l _ F1 H1 e1 c1 hl (KR.merge kr .nil)⟩
  · cases hf'
/-! xs.index(k) -/
def idxD (d : D) : List D → Option D
  | [.int k] => match d with
    | .lst ds => (intsD ds).bind fun ns => (ns.findIdx? (· == k)).map fun j => .int (j : Nat)
    | _ => none
  | _ => none
theorem eqV_int {i j : Int} : eqV (.int i) (.int j) = (i == j) := rfl
def indexM (a : M D) (ml : M (List D)) : M D := bindM a fun d => bindM ml fun l => liftM (idxD d l)
theorem pm_index {apos cpos : Pos} (a : PM T X ea ma) (h : PMA T X (e :: es) ml)
    (hbase : attributeBase ea "index" X.env (eval ea X.env) = eval ea X.env := by rfl)
    (hfew : ((backTo cpos (starEach (e :: es) X.env)).all (fun x => !x.1) && (backToKw cpos (keywordEach [] X.env)).all (fun x => x.1.isSome)
      && decide ((e :: es).length + ([] : List Keyword).length + (if ([] : List Keyword).isEmpty then 0 else 1) < 30)) = true := by rfl)
    (hline : (apos.endLine == cpos.line) = true := by rfl) (hs : starEach (e :: es) X.env = (false, eval e X.env) :: starEach es X.env := by rfl) (hplain : (backTo cpos (starEach es X.env)).any (·.1) = false := by rfl) :
    PM T X (.Call (.Attribute ea "index" apos) (e :: es) [] cpos) (indexM ma ml) := by
  obtain ⟨ta, pa, ha⟩ := a.ex
  obtain ⟨tb, pb, hb⟩ := h.ex
  refine ⟨_, pe_bm PySem.F.plainAttrs_list PySem.F.slot_list_index PySem.F.type_list_index mt_index pa pb hbase hfew hline hs hplain, fun dk dc F0 H0 F H σ st st' d Q c hm q => ?_⟩
  obtain ⟨d0, s1, hm1, hm⟩ := bindM_some hm
  obtain ⟨l, s2, hm2, hm3⟩ := bindM_some hm
  obtain ⟨hd, rfl⟩ := liftM_some hm3
  refine ha dk dc F0 H0 F H σ st s1 d0 _ c hm1 fun v F1 H1 e1 c1 r1 => ?_
  unfold idxD at hd
  split at hd
  · rename_i k
    split at hd
    · rename_i ds
      cases hi : intsD ds with
      | none => rw [hi] at hd; cases hd
      | some ns =>
        rw [hi] at hd
        simp only [Option.bind_some] at hd
        cases hj : ns.findIdx? (· == k) with
        | none => rw [hj] at hd; cases hd
        | some j =>
          rw [hj] at hd
          cases hd
          have ei := intsD_map hi
          subst ei
          obtain ⟨p, vs, rfl, hq, r2⟩ := r1.lst_inv
          have := r2.ints
          subst this
          refine ⟨.inl ⟨rfl, _, c1.frz.sqL hq⟩, hb dk dc F0 H0 F1 H1 σ s1 _ _ _ c1 hm2 fun ws F2 H2 e2 c2 r3 => ?_⟩
          obtain ⟨w, rfl, r4⟩ := r3.one_inv
          obtain rfl := r4.int_inv
          obtain ⟨hl, h1, h2⟩ := List.findIdx?_eq_some_iff_getElem.mp hj
          refine ⟨p, _, _, j, .int ns[j], rfl, rfl, c2.frz.sqL (e2.sqL hq), rfl, by simp [flatV], by rw [List.getElem?_map, List.getElem?_eq_getElem hl]; rfl, h1, fun m z' hm hz => ?_, q _ F2 H2 (e1.trans e2) c2 (.int _)⟩
          rw [List.getElem?_map, List.getElem?_eq_getElem (by omega)] at hz
          cases hz
          have := h2 m hm
          show (ns[m] == k) = false
          simpa using this
    · cases hd
  · cases hd
end
end GA

set_option Elab.async false
set_option linter.all false
set_option maxRecDepth 100000
set_option maxHeartbeats 2000000
/-! more operators: a tuple once, *=, //=, divmod, &, is not of truths, constants that are tuples or dicts -/
namespace GA
open PySem PySem.Spec PyProof.Rows L2 GenW
theorem tuple_mul1 (l : Addr) (items : Array Value) (n : Nat) (dd : Option Addr) (sl : Array (Option Value)) (u : Tok) (c1 : (items.isEmpty || (1 : Int) == 1) = true) :
    Meets (Builtin.«tuple.__mul__» ⟨[.ref l, .int 1 u], []⟩) (fun _ R s => s.heap.get? l = some { cls := .type "tuple", dict := dd, data := .seq items n, slots := sl } ∧ R (.ok (.ret (Value.ref l))) s) :=
  .of_wp fun prog w A R s h => by
    obtain ⟨hp, g, d, tk, os⟩ := s
    obtain ⟨hl, h⟩ := h
    have f1 := AutoSeq1.idx_int
    wp_walk using wpAny_loadPart' hl
    exact ⟨_, rfl, h⟩
def rRep1 (K : PySem.W.Frag) : R2 := fun x y H Q => ∃ l xs, x = .ref l ∧ y = .int 1 ∧ SqT K H l xs ∧ Q (.ref l) H
theorem op_rep1 {X : Cx} : OpR X (binaryOp .Mult) (rRep1 X.K) := by
  intro pins s σ H x y v u Q I rx ry h
  obtain ⟨l, xs, rfl, rfl, hT, q⟩ := h
  cases rx
  obtain ⟨t, rfl⟩ := ry
  obtain ⟨its, r, ⟨⟨cls, dd, data, sl⟩, ho, hc, n, hd⟩, hs⟩ := I.tuple hT
  simp only at hc hd
  subst hc hd
  refine wpAny_binaryOp_repeat_ref (T := "tuple") (U := "int") (by decide) ⟨_, ho, rfl⟩ (fun s' => typeIs_int s' 1 t) noFill_tuple_mul F.fills_int_mul F.slot_int_rmul repeat_tuple F.slot_int_index.lookup
    (call_meets F.slot_int_rmul (typeIs_int s 1 t) F.entry_int_rmul (F.args_int_rmul_2 _ _) (int_rmul_tuple 1 t l its.toArray n dd sl)
      ⟨ho, rfl, ⟨_, ho, rfl⟩, call_meets F.slot_tuple_mul ⟨_, ho, rfl⟩ F.entry_tuple_mul (F.args_tuple_mul_2 _ _) (tuple_mul1 l its.toArray n dd sl t (by simp)) ⟨ho, ?_⟩⟩)
  exact ⟨.ref l, H, I, rfl, q⟩
section
variable {K : PySem.W.Frag}
def rep1D : D → D → Option D | .tup b xs, .int k => if k = 1 then some (.tup b xs) else none | _, _ => none
theorem od_rep1 : OpD K (rRep1 K) rep1D := by
  intro F H x y a b d Q z ra rb hf q
  unfold rep1D at hf
  split at hf
  · split at hf
    · rename_i hk
      cases hf
      have ra' := ra
      obtain ⟨p, vs, rfl, hp, r1⟩ := ra.tup_inv
      obtain rfl := rb.int_inv
      subst hk
      exact ⟨p, vs, rfl, rfl, z.sqT hp, q _ F H (Grow.refl z) ra'⟩
    · cases hf
  · cases hf
def mulE (a b : D) : Option D := match rep1D a b with | some d => some d | none => mulD a b
theorem od_mulE : OpD K (fun x y H Q => rRep1 K x y H Q ∨ ((rI CMulW (fun i j => .int (i * j)) x y H Q ∨ rRep x y H Q) ∨ rRepT K x y H Q)) mulE := od_rep1.or od_mul fun a b d h => by
  unfold mulE at h
  split at h
  · rename_i e q
    cases h
    exact .inl q
  · exact .inr h
theorem op_mulE {X : Cx} : OpR X (binaryOp .Mult) (fun x y H Q => rRep1 X.K x y H Q ∨ ((rI CMulW (fun i j => .int (i * j)) x y H Q ∨ rRep x y H Q) ∨ rRepT X.K x y H Q)) := op_rep1.or op_mulD
def mulI := iiCD (fun _ j => decide (-(2 ^ 64) < j ∧ j < 2 ^ 64)) fun i j => .int (i * j)
theorem ipd_mul : IpD K (rI CMul fun i j => .int (i * j)) mulI := od_iiC (fun i j h => .inr (of_decide_eq_true h)) fun _ _ _ => .int _
theorem ip_mul {X : Cx} : PIp X .Mult (rI CMul fun i j => .int (i * j)) := iop_mul
theorem ip_fdiv {X : Cx} : PIp X .FloorDiv (rI CDivW fun i j => .int (i / j)) := iop_fdivW
theorem ipd_fdiv : IpD K (rI CDivW fun i j => .int (i / j)) fdivD := od_fdiv
def andD := iiD fun i j => .int (Builtin.bitAnd i j)
theorem od_and : OpD K (rI0 fun i j => .int (Builtin.bitAnd i j)) andD := od_ii fun _ _ _ => .int _
def divmodD : List D → Option D
  | [.int i, .int j] => if 0 < j ∧ j.natAbs.log2 < 9000 then some (.tup false [.int (i / j), .int (i % j)]) else none
  | _ => none
theorem cd_divmod : CallD K (fun xs H Q => ∃ i j, xs = [.int i, .int j] ∧ CDivP i j ∧ ∀ p, H p = none → Q (.ref p) (upd H p (.tup [.int (i / j), .int (i % j)]))) divmodD := by
  intro F H xs ds d Q z r hf q
  unfold divmodD at hf
  split at hf
  · split at hf
    · rename_i i j hc
      cases hf
      cases r with
      | cons r1 r =>
        cases r with
        | cons r2 r =>
          cases r
          obtain rfl := r1.int_inv
          obtain rfl := r2.int_inv
          refine ⟨i, j, rfl, ⟨hc.1, PyProof.noPylong_of_log2 hc.2⟩, fun p hp => ?_⟩
          obtain ⟨F', g, r3⟩ := new_tup (K := K) z hp (.cons (.int (i / j)) (.cons (.int (i % j)) .nil))
          exact q _ F' _ g r3
    · cases hf
  · cases hf
def isnE : D → D → Option D
  | .bl a, .bl b => some (.bl (!decide (a = b)))
  | a, b => isnD a b
theorem od_isnE : OpD K (fun x y H Q => (∃ a b, x = .bl a ∧ y = .bl b ∧ Q (.bl (!decide (a = b))) H) ∨ (y = .non ∧ Q (.bl (!decide (x = .non))) H)) isnE := by
  intro F H x y a b d Q z ra rb hf q
  unfold isnE at hf
  split at hf
  · cases hf
    obtain rfl := ra.bl_inv
    obtain rfl := rb.bl_inv
    exact .inl ⟨_, _, rfl, rfl, q _ F H (Grow.refl z) (.bl _)⟩
  · exact .inr (od_isn F H x y _ _ d Q z ra rb hf q)
theorem op_isnE {X : Cx} : OpR X (compareOp .IsNot) (fun x y H Q => (∃ a b, x = .bl a ∧ y = .bl b ∧ Q (.bl (!decide (a = b))) H) ∨ (y = .non ∧ Q (.bl (!decide (x = .non))) H)) := op_isnot_bl.or op_notN
/-- a dict of the module, its texts' values -/
def kdD (kv : List (Str × D)) : D → Option D
  | .str x => kv.lookup x
  | _ => none
/-- p is the module's dict with these entries -/
def KDs (K : PySem.W.Frag) (w : World) (p : Addr) (kv : List (Str × D)) : Prop := ∀ x d, kv.lookup x = some d → ∃ v, KDct K w p x v ∧ ∀ F, Rep K F v d
def kixM (kv : List (Str × D)) (m : M D) : M D := bindM m fun d => liftM (kdD kv d)
theorem pm_kix {X : Cx} {T : List Addr} {x : Str} {p : Addr} {ps pos : Pos} {e : Expr} {m : M D} {kv : List (Str × D)} (hg : Gl X x) (hm : X.mg x = some (.ref p)) (hk : KDs X.K X.w p kv) (h : PM T X e m) (hs : PlainIx e := by exact fun _ _ => rfl) (hd : (x == ("__debug__" : Str)) = false := by decide) :
    PM T X (.Subscript (.Name x ps) e pos) (kixM kv m) := by
  obtain ⟨t, pt, h⟩ := h.ex
  refine ⟨_, pe_ix ix_kdict (pe_glob (v := .ref p) hg hm rfl hd) pt hs, fun dk dc F0 H0 F H σ st st' d Q c hm q => ?_⟩
  obtain ⟨a, s1, hm1, hm2⟩ := bindM_some hm
  obtain ⟨hf, rfl⟩ := liftM_some hm2
  refine h dk dc F0 H0 F H σ st _ a _ c hm1 fun v F1 H1 e1 c1 r1 => ?_
  unfold kdD at hf
  split at hf
  · rename_i z
    obtain rfl := r1.str_inv
    obtain ⟨u, h1, h2⟩ := hk z d hf
    exact ⟨p, z, u, rfl, rfl, h1, q u F1 H1 e1 c1 (h2 F1)⟩
  · cases hf
/-- p is the module's tuple of these texts -/
def KTs (K : PySem.W.Frag) (p : Addr) (xs : List Str) : Prop := ∀ F, SqT K F p (xs.map V.str)
theorem KTs.rep {p : Addr} {xs : List Str} (h : KTs K p xs) (F : Hp) : Rep K F (.ref p) (.tup false (xs.map .str)) := by
  refine .tup (h F) (fun z => by cases z) ?_
  clear h
  induction xs with
  | nil => exact .nil
  | cons x xs ih => exact .cons (.str x) ih
theorem kts2 {p : Addr} {x y : Str} {t1 t2 : Tok} {n : Nat} {od : Option Addr} {sl : Array (Option Value)} (h : K.lookup p = some ⟨.type "tuple", od, .seq #[.str x t1, .str y t2] n, sl⟩) : KTs K p [x, y] := fun F =>
  .inr ⟨_, _, n, h, rfl, rfl, by rw [sizeLine_eq]; show 2 ≤ _; decide, .cons ⟨_, rfl⟩ (.cons ⟨_, rfl⟩ .nil)⟩
theorem kds2 {w : World} {p : Addr} {x y : Str} {i j : Int} {t1 t2 : Tok} {es : Array DictEntry} {n : Nat} (h : K.lookup p = some ⟨.type "dict", none, .dict es n, #[]⟩) (hk : PySem.W.KeysLit w.params es.toList) (h1 : PySem.W.nsIn K p x = some (some (.int i t1))) (h2 : PySem.W.nsIn K p y = some (some (.int j t2))) :
    KDs K w p [(x, .int i), (y, .int j)] := fun z d hz => by
  by_cases e1 : z = x
  · subst e1
    rw [List.lookup_cons_self] at hz
    cases hz
    exact ⟨.int i, ⟨es, n, _, h, hk, h1, ⟨_, rfl⟩⟩, fun F => .int _⟩
  · rw [List.lookup_cons, beq_eq_false_iff_ne.mpr e1] at hz
    by_cases e2 : z = y
    · subst e2
      rw [List.lookup_cons_self] at hz
      cases hz
      exact ⟨.int j, ⟨es, n, _, h, hk, h2, ⟨_, rfl⟩⟩, fun F => .int _⟩
    · rw [List.lookup_cons, beq_eq_false_iff_ne.mpr e2] at hz
      cases hz
end
end GA

set_option Elab.async false
set_option linter.all false
set_option maxRecDepth 100000
set_option maxHeartbeats 2000000
/-! min of a list of tuples of ints -/
namespace GA
open PySem PySem.Spec PyProof.Rows L2 GenW PySem.W
def pyI (ns : List Int) : PyData := .tuple (ns.map .int)
def minL (x : List Int) (xs : List (List Int)) : List Int := xs.foldl (fun a y => if decide (y < a) = true then y else a) x
theorem minD_pyI : ∀ (x : List Int) (xs : List (List Int)), minD (pyI x) (xs.map pyI) = pyI (minL x xs)
  | x, [] => rfl
  | x, y :: xs => by
    have e : dataLt (pyI y) (pyI x) = decide (y < x) := by
      unfold pyI
      rw [dataLt_tuple]
      exact dataLt_ints y x
    show minD (if dataLt (pyI y) (pyI x) = true then pyI y else pyI x) (xs.map pyI) = pyI (minL (if decide (y < x) = true then y else x) xs)
    rw [e, ← minD_pyI]
    split <;> rfl
theorem alikeAll_I : ∀ (a b : List Int), alikeAll (a.map PyData.int) (b.map PyData.int) = true
  | [], b => by cases b <;> rfl
  | x :: a, [] => rfl
  | x :: a, y :: b => by
    show (alike (.int x) (.int y) && alikeAll (a.map PyData.int) (b.map PyData.int)) = true
    rw [alikeAll_I a b]; rfl
theorem pyI_inj {a b : List Int} (h : pyI a = pyI b) : a = b := by
  unfold pyI at h
  have h := PyData.tuple.inj h
  induction a generalizing b with
  | nil => cases b with
    | nil => rfl
    | cons y b => cases h
  | cons x a ih => cases b with
    | nil => cases h
    | cons y b =>
      rw [List.map_cons, List.map_cons] at h
      have h1 := (List.cons.inj h).1
      rw [PyData.int.inj h1, ih (congrArg PyData.tuple (List.cons.inj h).2) (List.cons.inj h).2]
theorem depth_I : ∀ (ns : List Int), PyData.depthAll (ns.map PyData.int) = 0
  | [] => rfl
  | n :: ns => by
    show max 0 (PyData.depthAll (ns.map PyData.int)) = 0
    rw [depth_I ns]; rfl
theorem depth_all : ∀ (nss : List (List Int)), PyData.depthAll (nss.map pyI) ≤ 1
  | [] => Nat.zero_le _
  | n :: nss => by
    have h1 : PyData.depth (pyI n) = PyData.depthAll (n.map PyData.int) + 1 := rfl
    have := depth_all nss
    rw [depth_I] at h1
    show max (PyData.depth (pyI n)) (PyData.depthAll (nss.map pyI)) ≤ 1
    omega
theorem vals_at : ∀ {vs : List V} {us : List Value} {i : Nat} {u : Value}, Vals vs us → us[i]? = some u → ∃ v, vs[i]? = some v ∧ RelV v u
  | _, _, _, _, .nil, h => by simp at h
  | _, _, 0, _, .cons a _, h => ⟨_, rfl, by simp at h; subst h; exact a⟩
  | _, _, i + 1, _, .cons _ b, h => by
    obtain ⟨v, h1, h2⟩ := vals_at (i := i) b (by simpa using h)
    exact ⟨v, by simpa using h1, h2⟩
def rMinD (K : PySem.W.Frag) : List V → Hp → VK → Prop := fun xs H Q => ∃ (a : Addr) (vs : List V) (x : List Int) (nss : List (List Int)), xs = [.ref a] ∧ SqL K H a vs ∧ DpAll K H vs ((x :: nss).map pyI) ∧
  ∀ (i : Nat) (v : V), vs[i]? = some v → (x :: nss)[i]? = some (minL x nss) → Q v H
theorem cr_minD {X : Cx} (hc : X.calm = true) (hu : X.A.units + 64 < cLine) : CallR X (.builtin "min") (rMinD X.K) := by
  intro pins s σ H xs us Q I r h
  obtain ⟨a, vs, x, nss, rfl, hs, hd, q⟩ := h
  obtain ⟨its, rv, hl, hz⟩ := I.list hs
  rw [Vals.ref1 r]
  obtain ⟨as, ra⟩ := Dp.readsAll I _ _ _ hd rv
  refine min_list_data (x := pyI x) (xs := nss.map pyI) (as := as) (I.ok.hd hc) hl.isList ra ⟨fun p hp y hy => ?_, fun p hp => ?_⟩ ?_ fun i v h' tk bs hv hr hk => ?_
  · rw [← List.map_cons] at hp hy
    obtain ⟨n, _, rfl⟩ := List.mem_map.mp hp
    obtain ⟨m, _, rfl⟩ := List.mem_map.mp hy
    exact alikeAll_I n m
  · rw [← List.map_cons] at hp
    obtain ⟨n, _, rfl⟩ := List.mem_map.mp hp
    intro z; cases z
  · have := depth_all (x :: nss)
    rw [List.map_cons] at this
    omega
  · have hv' : its[i]? = some v := by simpa using hv
    obtain ⟨w, hw, rw_⟩ := vals_at rv hv'
    obtain ⟨bs2, hr2, hi, _, _⟩ := readsAll_at ra i v hv'
    rw [minD_pyI] at hr
    obtain ⟨e, _⟩ := reads_det (fun b o e _ => hk b o e) hr2 hr
    refine ⟨w, H, I.kept hk, rw_, q i w hw ?_⟩
    have hi2 : i < (x :: nss).length := by
      have : i < ((x :: nss).map pyI).length := hi
      rwa [List.length_map] at this
    rw [List.getElem?_eq_getElem hi2]
    refine congrArg some (pyI_inj ?_)
    rw [e]
    show pyI _ = ((x :: nss).map pyI).getD i .none
    rw [List.getD_eq_getElem?_getD, List.getElem?_map, List.getElem?_eq_getElem hi2]
    rfl
section
variable {K : PySem.W.Frag}
def intsTs : List D → Option (List (List Int))
  | [] => some []
  | .tup true l :: r => (intsD l).bind fun ns => (intsTs r).map (ns :: ·)
  | _ :: _ => none
theorem intsTs_map : ∀ {ds : List D} {nss : List (List Int)}, intsTs ds = some nss → ds = nss.map fun ns => .tup true (ns.map .int)
  | [], _, h => by cases h; rfl
  | .tup true l :: r, _, h => by
    unfold intsTs at h
    cases q : intsD l with
    | none => rw [q] at h; cases h
    | some ns =>
      rw [q] at h
      cases q2 : intsTs r with
      | none => rw [q2] at h; cases h
      | some ms =>
        rw [q2] at h
        cases h
        rw [intsTs_map q2, intsD_map q]
        rfl
  | .tup false _ :: _, _, h => by cases h
  | .non :: _, _, h => by cases h
  | .bl _ :: _, _, h => by cases h
  | .int _ :: _, _, h => by cases h
  | .str _ :: _, _, h => by cases h
  | .lst _ :: _, _, h => by cases h
  | .raw _ :: _, _, h => by cases h
  | .rg _ _ :: _, _, h => by cases h
def minTD : List D → Option D
  | [.lst ds] => match intsTs ds with | some (x :: xs) => some (.tup true ((minL x xs).map .int)) | _ => none
  | _ => none
theorem toPys_I0 : ∀ (ns : List Int), toPys (ns.map D.int) = some (ns.map PyData.int)
  | [] => rfl
  | n :: ns => by
    rw [List.map_cons]
    unfold toPys
    rw [toPys_I0 ns]; rfl
theorem toPys_T0 : ∀ (nss : List (List Int)), toPys (nss.map fun ns => D.tup true (ns.map .int)) = some (nss.map pyI)
  | [] => rfl
  | n :: nss => by
    have h1 : toPy (D.tup true (n.map .int)) = some (pyI n) := by unfold toPy; rw [toPys_I0]; rfl
    show toPys (D.tup true (n.map .int) :: nss.map fun ns => D.tup true (ns.map .int)) = _
    unfold toPys
    rw [h1, toPys_T0 nss]; rfl
theorem cd_minD : CallD K (rMinD K) minTD := by
  intro F H xs ds d Q z r hf q
  unfold minTD at hf
  split at hf
  · rename_i es
    obtain ⟨v, rfl, r1⟩ := r.one_inv
    split at hf
    · rename_i x nss hx
      cases hf
      obtain ⟨p, vs, rfl, hp, r2⟩ := r1.lst_inv
      have he := intsTs_map hx
      subst he
      refine ⟨p, vs, x, nss, rfl, z.sqL hp, Reps.dp z r2 (toPys_T0 _), fun i v hv hi => ?_⟩
      obtain ⟨d, hd, hr⟩ := r2.getV hv
      rw [List.getElem?_map, hi] at hd
      cases hd
      exact q v F H (Grow.refl z) hr
    · cases hf
  · cases hf
end
/-! repr of None, too -/
def reprE : List D → Option D
  | [.non] => some (.str "None")
  | l => reprD l
def rReprN : List V → Hp → VK → Prop := fun xs H Q => xs = [.non] ∧ Q (.str "None") H
theorem cr_reprN {X : Cx} : CallR X (.builtin "repr") rReprN := by
  intro pins s σ H xs us Q I r h
  obtain ⟨rfl, q⟩ := h
  cases r with
  | cons r1 rr =>
    cases rr
    cases r1
    exact PySem.P.repr_of_none ⟨.str _, H, I.tok _, ⟨_, rfl⟩, q⟩
theorem cr_reprE {X : Cx} (hq : X.A.guards = some []) (hu : X.A.units + 64 < cLine) : CallR X (.builtin "repr") (fun xs H Q => rReprN xs H Q ∨ rReprD X.K xs H Q) := CallR.or cr_reprN (cr_repr hq hu)
theorem cd_reprE {K : PySem.W.Frag} : CallD K (fun xs H Q => rReprN xs H Q ∨ rReprD K xs H Q) reprE := by
  intro F H xs ds d Q z r hf q
  unfold reprE at hf
  split at hf
  · cases hf
    obtain ⟨v, rfl, r1⟩ := r.one_inv
    obtain rfl := r1.non_inv
    exact .inl ⟨rfl, q _ F H (Grow.refl z) (.str _)⟩
  · exact .inr (cd_repr F H xs ds d Q z r hf q)
end GA

set_option Elab.async false
set_option linter.all false
set_option maxRecDepth 100000
set_option maxHeartbeats 2000000
/-! ranges as values, constants of more texts, sorted of any data, count of texts, xs[i] += e -/
namespace GA
open PySem PySem.Spec PyProof.Rows L2 GenW PySem.W
section
variable {X : Cx} {T : List Addr} {e tg : Expr} {ma : M D}
def rRange1 : List V → Hp → VK → Prop := fun vs H Q => ∃ j, vs = [V.int j] ∧ ∀ p, H p = none → Q (.ref p) (upd H p (.rng 0 j))
theorem cr_range1 : CallR X (.type "range") rRange1 := by
  intro pins s σ H vs us Q I r h
  obtain ⟨j, rfl, q⟩ := h
  cases r with
  | cons r rr =>
    cases rr
    obtain ⟨t, rfl⟩ := r
    refine call_range_1 ⟨.ref s.heap.objs.size, upd H s.heap.objs.size (.rng 0 j), I.laid (t' := s.toks + 1 + 1) (fun b o e => Heap.get?_push_of_some _ e) (Nat.le_refl _) ?_, rfl, q _ (I.hok.fresh (Nat.le_refl _))⟩
    exact ⟨s.toks, t, s.toks + 1, Heap.get?_push_size _ rfl⟩
def rgV : List D → Option D | [.int j] => some (.rg 0 j) | _ => none
theorem cd_range {K : PySem.W.Frag} : CallD K rRange1 rgV := by
  intro F H xs ds d Q z r hf q
  unfold rgV at hf
  split at hf
  · rename_i j
    cases hf
    obtain ⟨v, rfl, r1⟩ := r.one_inv
    obtain rfl := r1.int_inv
    refine ⟨j, rfl, fun p hp => ?_⟩
    have g := Grow.new (o := .rng 0 j) z hp (fun ps w => nomatch w)
    exact q _ _ _ g (.rg upd_same)
  · cases hf
theorem pi_rngV {te : TE} (h : PE X e te) : PI X tg e (fun σ H R => te σ H fun x H1 => ∃ a lo hi, x = .ref a ∧ H1 a = some (.rng lo hi) ∧ (-(2 ^ 62) ≤ lo ∧ lo < 2 ^ 62 ∧ -(2 ^ 62) ≤ hi ∧ hi < 2 ^ 62) ∧ R (Itr lo (hi - lo).toNat) H1) := by
  refine ⟨fun pins s σ H R I h' => ?_⟩
  refine thn (h.run pins s σ H _ I h') fun v s1 ⟨x, H1, I1, r1, q1⟩ => ?_
  obtain ⟨a, lo, hi, e1, ha, ⟨b1, b2, b3, b4⟩, q⟩ := q1
  subst e1
  cases r1
  obtain ⟨t, u, w, ho⟩ := I1.hok a _ ha
  refine wpAny_pyIter_range (show IsRange s1.heap a lo hi 1 t u w from ho) (small_one b1 b2 b3 b4) ?_
  refine ⟨s1.heap.objs.size, [s1.heap.objs.size], _, _, H1, rfl, I1.kept (t' := s1.toks) fun b o e => Heap.get?_push_of_some _ e, turn_range _ lo (hi - lo).toNat, ?_, fun b hb => ?_, q⟩
  · have e1 : lo + ((0 : Nat) : Int) * 1 = lo := by simp
    have e2 : (((hi - lo).toNat : Nat) : Int) - ((0 : Nat) : Int) = Builtin.Range.rangeSize lo hi 1 := by rw [rangeSize_one]; split <;> omega
    show IsRangeIter _ _ (lo + ((0 : Nat) : Int) * 1) ((((hi - lo).toNat : Nat) : Int) - ((0 : Nat) : Int)) 1
    rw [e1, e2]
    exact Heap.get?_push_size _ rfl
  · have e : b = s1.heap.objs.size := by simpa using hb
    subst e
    exact I1.fpOk (Nat.le_refl _) (I1.hok.fresh (Nat.le_refl _))
def asRg : D → Option (List D)
  | .rg lo hi => if -(2 ^ 62) ≤ lo ∧ lo < 2 ^ 62 ∧ -(2 ^ 62) ≤ hi ∧ hi < 2 ^ 62 then some (rng lo (hi - lo).toNat) else none
  | _ => none
def seqRI (m : M D) : M (List D) := bindM m fun d => liftM (asRg d)
theorem pmi_rg (h : PM T X e ma) : PMI T X tg e (seqRI ma) := by
  obtain ⟨t, pt, h⟩ := h.ex
  refine ⟨_, pi_rngV pt, fun dk dc F0 H0 F H σ st st' ds R c hm a => ?_⟩
  obtain ⟨d, s2, hm1, hm2⟩ := bindM_some hm
  obtain ⟨hd, rfl⟩ := liftM_some hm2
  refine h dk dc F0 H0 F H σ st _ _ _ c hm1 fun v F1 H1 e1 c1 r1 => ?_
  unfold asRg at hd
  split at hd
  · split at hd
    · rename_i hb
      cases hd
      cases r1 with
      | rg hp => exact ⟨_, _, _, rfl, (c1.frz _ _ hp).1, hb, a _ _ _ e1 c1 walk_rng⟩
    · cases hd
  · cases hd
end
section
variable {K : PySem.W.Frag}
theorem kts4 {p : Addr} {x y z u : Str} {t1 t2 t3 t4 : Tok} {n : Nat} {od : Option Addr} {sl : Array (Option Value)} (h : K.lookup p = some ⟨.type "tuple", od, .seq #[.str x t1, .str y t2, .str z t3, .str u t4] n, sl⟩) : KTs K p [x, y, z, u] := fun F =>
  .inr ⟨_, _, n, h, rfl, rfl, by rw [sizeLine_eq]; show 4 ≤ _; decide, .cons ⟨_, rfl⟩ (.cons ⟨_, rfl⟩ (.cons ⟨_, rfl⟩ (.cons ⟨_, rfl⟩ .nil)))⟩
theorem kts3 {p : Addr} {x y z : Str} {t1 t2 t3 : Tok} {n : Nat} {od : Option Addr} {sl : Array (Option Value)} (h : K.lookup p = some ⟨.type "tuple", od, .seq #[.str x t1, .str y t2, .str z t3] n, sl⟩) : KTs K p [x, y, z] := fun F =>
  .inr ⟨_, _, n, h, rfl, rfl, by rw [sizeLine_eq]; show 3 ≤ _; decide, .cons ⟨_, rfl⟩ (.cons ⟨_, rfl⟩ (.cons ⟨_, rfl⟩ .nil))⟩
/-- what a dict of the module holds at a text -/
def KVal (K : PySem.W.Frag) (p : Addr) (x : Str) (d : D) : Prop := ∃ (v : V) (u : Value), PySem.W.nsIn K p x = some (some u) ∧ RelV v u ∧ ∀ F, Rep K F v d
theorem kval_str {p : Addr} {x y : Str} {t : Tok} (h : PySem.W.nsIn K p x = some (some (.str y t))) : KVal K p x (.str y) := ⟨.str y, _, h, ⟨_, rfl⟩, fun _ => .str _⟩
theorem kval_int {p : Addr} {x : Str} {i : Int} {t : Tok} (h : PySem.W.nsIn K p x = some (some (.int i t))) : KVal K p x (.int i) := ⟨.int i, _, h, ⟨_, rfl⟩, fun _ => .int _⟩
theorem kdsN {w : World} {p : Addr} {es : Array DictEntry} {n : Nat} {kv : List (Str × D)} (h : K.lookup p = some ⟨.type "dict", none, .dict es n, #[]⟩) (hk : PySem.W.KeysLit w.params es.toList) (hv : ∀ e ∈ kv, KVal K p e.1 e.2) : KDs K w p kv := by
  intro z d hz
  induction kv with
  | nil => cases hz
  | cons e kv ih =>
    rw [show e = (e.1, e.2) from rfl, List.lookup_cons] at hz
    by_cases e1 : (z == e.1) = true
    · rw [e1] at hz
      cases hz
      have := beq_iff_eq.mp e1
      subst this
      obtain ⟨v, u, h1, h2, h3⟩ := hv e List.mem_cons_self
      exact ⟨v, ⟨es, n, u, h, hk, h1, h2⟩, h3⟩
    · rw [show (z == e.1) = false from by simpa using e1] at hz
      exact ih (fun x hx => hv x (List.mem_cons_of_mem _ hx)) hz
/-! sorted of any data -/
def encD (d : D) : PyData := (toPy d).getD .none
instance (ds : List PyData) : Decidable (AllAlike ds) := by unfold AllAlike; exact List.decidableBAll ..
def isTupN : PyData → Bool | .tuple (_ :: _) => true | _ => false
def isOther : PyData → Bool | .none => false | .tuple _ => false | _ => true
def sortOk (ds : List D) : Bool := ds.all (fun d => (toPy d).isSome) && decide (AllAlike (ds.map encD)) && (ds.all (fun d => isTupN (encD d)) || ds.all (fun d => isOther (encD d))) && decide (ds.length ≤ sizeLine) && ds.all (fun d => decide ((encD d).depth ≤ 60))
def sortA (ds : List D) : List D := ds.mergeSort (dataLe false encD)
def sortDA : List D → Option (List D)
  | [.lst ds] => if sortOk ds = true then some (sortA ds) else none
  | _ => none
theorem each_of {H : Hp} {F : Hp} (z : Frz F H) : ∀ {ds : List D} {vs : List V}, Reps K F vs ds → (∀ d ∈ ds, (toPy d).isSome = true) → DpAll K H vs (ds.map encD)
  | [], _, .nil, _ => .nil
  | d :: ds, _, .cons r rr, h => by
    have h1 := h d List.mem_cons_self
    obtain ⟨p, hp⟩ := Option.isSome_iff_exists.mp h1
    have : encD d = p := by unfold encD; rw [hp]; rfl
    rw [List.map_cons, this]
    exact .cons (Rep.dp z r hp) (each_of z rr fun x hx => h x (List.mem_cons_of_mem _ hx))
/-- a value, what it stands for -/
def VD (K : PySem.W.Frag) (F : Hp) : Value → D → Prop := fun u d => ∃ v, RelV v u ∧ Rep K F v d
theorem each_vd {F : Hp} : ∀ {ds : List D} {vs : List V} {us : List Value}, Reps K F vs ds → Vals vs us → EachIs (VD K F) us ds
  | _, _, _, .nil, .nil => .nil
  | _, _, _, .cons r rr, .cons a aa => .cons ⟨_, a, r⟩ (each_vd rr aa)
theorem vd_each {F : Hp} : ∀ {ds : List D} {us : List Value}, EachIs (VD K F) us ds → ∃ vs, Reps K F vs ds ∧ Vals vs us
  | _, _, .nil => ⟨[], .nil, .nil⟩
  | _, _, .cons ⟨v, a, r⟩ h => by
    obtain ⟨vs, h1, h2⟩ := vd_each h
    exact ⟨v :: vs, .cons r h1, .cons a h2⟩
def rSortDA (K : PySem.W.Frag) : List V → Hp → VK → Prop := fun xs H Q => ∃ (a : Addr) (vs : List V) (ds : List D) (F : Hp), xs = [.ref a] ∧ SqL K H a vs ∧ Reps K F vs ds ∧ Frz F H ∧ sortOk ds = true ∧
  ∀ (ws : List V) (p : Addr), Reps K F ws (sortA ds) → ws.length ≤ sizeLine → H p = none → Q (.ref p) (upd H p (.lst ws))
end
theorem cr_sortDA {X : Cx} (hu : X.A.units + 64 < cLine) : CallR X (.builtin "sorted") (rSortDA X.K) := by
  intro pins s σ H xs us Q I r h
  obtain ⟨a, vs, ds, F, rfl, hs, hr, z, hok, q⟩ := h
  obtain ⟨its, rv, hl, hz⟩ := I.list hs
  rw [Vals.ref1 r]
  unfold sortOk at hok
  simp only [Bool.and_eq_true, Bool.or_eq_true, List.all_eq_true, decide_eq_true_eq] at hok
  obtain ⟨⟨⟨⟨h1, h2⟩, h3⟩, h4⟩, h5⟩ := hok
  have dp := each_of z hr h1
  obtain ⟨as, ra⟩ := Dp.readsAll I _ _ _ dp rv
  have ee := readsAll_each encD ra
  refine sorted_data (R := VD X.K F) (enc := encD) hl.isList (each_vd hr rv) ee h2 ?_ h4 (fun b hb => ?_) fun out ho he => ?_
  · rcases h3 with h3 | h3
    · refine .inl fun d hd => ?_
      obtain ⟨b, hb, rfl⟩ := List.mem_map.mp hd
      have := h3 b hb
      unfold isTupN at this
      split at this
      · rename_i x r e
        exact ⟨x, r, e⟩
      · cases this
    · refine .inr fun d hd => ?_
      obtain ⟨b, hb, rfl⟩ := List.mem_map.mp hd
      have := h3 b hb
      unfold isOther at this
      split at this
      · cases this
      · cases this
      · rename_i e1 e2
        exact ⟨e1, e2⟩
  · have := h5 b hb
    omega
  · obtain ⟨ws, w1, w2⟩ := vd_each he
    obtain ⟨ep, at_⟩ := sortedAll_at s.heap its out.toArray
    have hlen : ws.length = ds.length := by rw [w1.length]; exact (List.mergeSort_perm ds _).length_eq
    refine ⟨.ref _, upd H (s.heap.objs.size + 1) (.lst ws), I.laid (t' := s.toks) (fun _ _ => sortedAll_old) (Nat.le_succ _) ⟨by rw [hlen]; exact h4, out, ep, w2, at_⟩, rfl, q _ _ w1 (by rw [hlen]; exact h4) (I.hok.fresh (Nat.le_succ _))⟩
section
variable {K : PySem.W.Frag}
theorem cl_sortDA : CallL K (rSortDA K) sortDA := by
  intro F H xs ds es Q z r hf q
  unfold sortDA at hf
  split at hf
  · rename_i es0
    split at hf
    · rename_i ho
      cases hf
      obtain ⟨v, rfl, r1⟩ := r.one_inv
      obtain ⟨p, vs, rfl, hp, r2⟩ := r1.lst_inv
      exact ⟨p, vs, es0, F, rfl, z.sqL hp, r2, z, ho, fun ws p w1 w2 hp => q p ws F H (Grow.refl z) hp w1 w2⟩
    · cases hf
  · cases hf
end
/-! count of texts -/
theorem strsD_of : ∀ (xs : List Str), strsD (xs.map .str) = some xs
  | [] => rfl
  | x :: xs => by
    show (strsD (xs.map .str)).map (x :: ·) = _
    rw [strsD_of xs]; rfl
theorem countP_isStrOf (k : Str) : ∀ {vs : List Value} {ys : List Str}, StrsAre vs ys → vs.countP (isStrOf k) = ys.countP (· == k)
  | _, _, .nil => rfl
  | _, _, .cons n t h => by
    rw [List.countP_cons, List.countP_cons, countP_isStrOf k h]
    rfl
def rCntTS (K : PySem.W.Frag) : V → List V → Hp → VK → Prop := fun x xs H Q => ∃ (p : Addr) (ns : List Str) (k : Str), x = .ref p ∧ xs = [.str k] ∧ SqT K H p (ns.map V.str) ∧ Q (.int (ns.countP (· == k) : Nat)) H
theorem mt_tcountS {X : Cx} : MtR X "tuple.count" (rCntTS X.K) := by
  rintro pins s σ H x xs v us Q I rx rxs ⟨p, ns, k, rfl, rfl, hs, q⟩
  cases rx
  obtain ⟨u, rfl, t, rfl⟩ := rxs.one
  obtain ⟨its, rv, ⟨⟨cl, dd, da, sl⟩, ho, hc, n, hd⟩, hz⟩ := I.tuple hs
  simp only at hc hd
  subst hc hd
  have hi := L2.strs_of_vals rv
  refine call_meets PySem.F.slot_tuple_count ⟨_, ho, rfl⟩ PySem.F.entry_tuple_count (PySem.F.args_tuple_count_2 _ _)
    (SeqAt.tuple_countAt p its.toArray n dd sl (.str k t) (isStrOf k)) ⟨ho, fun y hy => (eq_isStrOf k t hi y (by simpa using hy)).at _ _, ?_⟩
  have ec := countP_isStrOf k hi
  refine ⟨.int (ns.countP (· == k) : Nat), H, I.tok _, ⟨s.toks, ?_⟩, q⟩
  show Value.int ((its.toArray.toList.countP (isStrOf k) : Nat) : Int) s.toks = _
  rw [show its.toArray.toList = its from rfl, ec]
def cntSD (d : D) : List D → Option D
  | [.str k] => match d with
    | .tup true ds => (strsD ds).map fun ns => .int (ns.countP (· == k) : Nat)
    | _ => none
  | _ => none
def countSM (ma : M D) (ml : M (List D)) : M D := bindM ma fun d => bindM ml fun l => liftM (cntSD d l)
theorem pm_countS {X : Cx} {T : List Addr} {ea e : Expr} {ma : M D} {apos cpos : Pos} {es : List Expr} {ml : M (List D)} (a : PM T X ea ma) (h : PMA T X (e :: es) ml)
    (hbase : attributeBase ea "count" X.env (eval ea X.env) = eval ea X.env := by rfl)
    (hfew : ((backTo cpos (starEach (e :: es) X.env)).all (fun x => !x.1) && (backToKw cpos (keywordEach [] X.env)).all (fun x => x.1.isSome)
      && decide ((e :: es).length + ([] : List Keyword).length + (if ([] : List Keyword).isEmpty then 0 else 1) < 30)) = true := by rfl)
    (hline : (apos.endLine == cpos.line) = true := by rfl) (hs : starEach (e :: es) X.env = (false, eval e X.env) :: starEach es X.env := by rfl) (hplain : (backTo cpos (starEach es X.env)).any (·.1) = false := by rfl) :
    PM T X (.Call (.Attribute ea "count" apos) (e :: es) [] cpos) (countSM ma ml) := by
  obtain ⟨ta, pa, ha⟩ := a.ex
  obtain ⟨tb, pb, hb⟩ := h.ex
  refine ⟨_, pe_mG ty_pl PySem.F.plainAttrs_tuple PySem.F.slot_tuple_count PySem.F.type_tuple_count mt_tcountS pa pb hbase hfew hline hs hplain, fun dk dc F0 H0 F H σ st st' d Q c hm q => ?_⟩
  obtain ⟨d0, s1, hm1, hm⟩ := bindM_some hm
  obtain ⟨l, s2, hm2, hm3⟩ := bindM_some hm
  obtain ⟨hd, rfl⟩ := liftM_some hm3
  refine ha dk dc F0 H0 F H σ st s1 d0 _ c hm1 fun v F1 H1 e1 c1 r1 => ?_
  unfold cntSD at hd
  split at hd
  · rename_i k
    split at hd
    · rename_i ds
      cases hi : strsD ds with
      | none => rw [hi] at hd; cases hd
      | some ns =>
        rw [hi] at hd
        cases hd
        have ei := strsD_map hi
        subst ei
        cases r1 with
        | tup h1 h2 h3 =>
          have := h3.strs
          subst this
          rename_i p
          refine ⟨⟨p, _, rfl, c1.frz.sqT h1, ?_⟩, hb dk dc F0 H0 F1 H1 σ s1 _ _ _ c1 hm2 fun vs F2 H2 e2 c2 r2 => ?_⟩
          · exact (h2 rfl).ext fun a o z => (c1.frz a o z).1
          · obtain ⟨w, rfl, r3⟩ := r2.one_inv
            obtain rfl := r3.str_inv
            exact ⟨p, ns, k, rfl, rfl, c2.frz.sqT (e2.sqT h1), q _ F2 H2 (e1.trans e2) c2 (.int _)⟩
    · cases hd
  · cases hd
/-! xs[i] += e of an own list -/
theorem pget_list {X : Cx} : PGet X (rIxL X.K) := by
  intro pins s σ H x y v u Q I rx ry h
  obtain ⟨p, xs, i, z, rfl, rfl, hq, he, q⟩ := h
  cases rx
  obtain ⟨t, rfl⟩ := ry
  obtain ⟨its, r, pl, hz⟩ := I.list hq
  obtain ⟨j, h1, h2, h3, h4, h5⟩ := atI_get he
  obtain ⟨w, ew, rw'⟩ := r.get h2
  have hl := r.length
  have hn := line63
  have fin : EP X pins σ Q w s := ⟨z, H, I, rw', q⟩
  by_cases h0 : 0 ≤ i
  · have hj : i.toNat = j := by
      rw [seqIndex_of h0 h5] at h1
      exact Option.some.inj h1
    exact wpAny_getItem_list pl.isList h0 (by omega) (by rw [hj]; simpa using ew) fin
  · have hj : (i + (its.toArray.size : Int)).toNat = j := by
      rw [seqIndex_neg (by omega) h4] at h1
      rw [List.size_toArray, ← hl]
      exact Option.some.inj h1
    exact wpAny_getItem_list_neg pl.isList (by omega) (by rw [List.size_toArray] <;> omega) (by omega) (by rw [hj]; simpa using ew) fin
/-- xs[k] op= e: the item, then e, then the store -/
def ownAugM (i : Nat) (mk : M D) (f : D → D → Option D) (me : M D) : M Fl := fun st => match ownOf st i with
  | none => none
  | some _ => match mk st with
    | none => none
    | some (k, s1) => match ownOf s1 i with
      | none => none
      | some xs => match (asI k).bind (ixN xs.length) with
        | none => none
        | some j => match xs[j]? with
          | none => none
          | some old => match me s1 with
            | none => none
            | some (y, s2) => match ownOf s2 i with
              | none => none
              | some ys => if ys.length = xs.length then match f old y with
                | none => none
                | some z => some (.nx, { s2 with r := s2.r.set i (.own (ys.set j z)) }) else none
theorem atI_of_ixN {xs : List V} {n : Int} {j : Nat} {v : V} (h : ixN xs.length n = some j) (hv : xs[j]? = some v) : L2.atI xs n = some v := by
  unfold L2.atI
  rw [h]; exact hv
theorem pms_ownAug (i : Nat) {X : Cx} {T : List Addr} {x : Str} {e ea : Expr} {p tpos pos : Pos} {mk me : M D} {op : Operator} {ti : TIp} {f : D → D → Option D} (b : PM T X e mk) (ho : PIp X op ti) (hf : IpD X.K ti f) (h : PM T X ea me)
    (hN : X.N[i]? = some x := by rfl) (hv : Vis X.env.scope x := by first | exact Or.inl rfl | exact Or.inr (Or.inl rfl) | exact Or.inr (Or.inr rfl)) (hd : (x == ("__debug__" : Str)) = false := by decide) (hcd : (x == ("__classdict__" : Str)) = false := by decide)
    (ha : ∀ ov iv new, augStore e ov iv new = (do holding [new, ov, iv] (setItem ov iv new); release [new, ov, iv] []; pure .next) := by intros; rfl) :
    PMS T X (.AugAssign (.Subscript (.Name x p) e tpos) op ea pos) (ownAugM i mk f me) := by
  obtain ⟨tb, pb, hb⟩ := b.ex
  obtain ⟨te, pe, he⟩ := h.ex
  refine ⟨_, ps_augS (pe_var hN hv hd hcd) pb pget_list pe ho set_list ha, fun dk dc F0 H0 F H σ st st' fl De c hm a => ?_⟩
  unfold ownAugM at hm
  split at hm
  · cases hm
  · rename_i xs0 g0
    split at hm
    · cases hm
    · rename_i k s1 g1
      split at hm
      · cases hm
      · rename_i xs g2
        split at hm
        · cases hm
        · rename_i j g3
          split at hm
          · cases hm
          · rename_i old g4
            split at hm
            · cases hm
            · rename_i y s2 g5
              split at hm
              · cases hm
              · rename_i ys g6
                split at hm
                · rename_i hlen
                  split at hm
                  · cases hm
                  · rename_i z g7
                    cases hm
                    obtain ⟨ad, vs, h1, h2, h3⟩ := c.env.own i _ (ownOf_some g0)
                    refine ⟨_, h1, hb dk dc F0 H0 F H σ st _ k _ c g1 fun w F1 H1 e1 c1 r1 => ?_⟩
                    obtain ⟨a', vs1, k1, k2, k3⟩ := c1.env.own i _ (ownOf_some g2)
                    have : a' = ad := by rw [h1] at k1; cases k1; rfl
                    subst this
                    cases k with
                    | int n =>
                      obtain rfl := r1.int_inv
                      obtain ⟨v, q1, q2⟩ := k3.get g4
                      have g3' : ixN vs1.length n = some j := by rw [k3.length]; exact g3
                      refine ⟨a', vs1, n, v, rfl, rfl, .inl (.inl k2.at_), atI_of_ixN g3' q1, he dk dc F0 H0 F1 H1 σ s1 _ y _ c1 g5 fun w2 F2 H2 e2 c2 r2 => ?_⟩
                      refine hf F2 H2 v w2 old y z _ c2.frz (q2.ext e2) r2 g7 fun w3 F3 H3 gr r3 => ?_
                      have c3 := c2.grow gr
                      obtain ⟨a3, vs3, m1, m2, m3⟩ := c3.env.own i _ (ownOf_some g6)
                      have : a3 = a' := by rw [h1] at m1; cases m1; rfl
                      subst this
                      exact ⟨a3, vs3, n, j, rfl, rfl, m2.at_, by rw [m3.length, hlen]; exact g3, a σ F3 _ ((e1.trans e2).trans (gr.ext c2.frz)) (c3.mutd (ownOf_some g6) m1 m2 (m3.set r3 j))⟩
                    | _ => cases g3
                · cases hm
/-! a dict display of texts -/
structure PPC (X : Cx) (pos : Pos) (keys : List (Option Expr)) (values : List Expr) (kvs : List (Key × D)) : Prop where
  ex : ∃ trs : List (TE × TE), PPs X pos keys values trs ∧ ∀ (σ : L2.St) (H : Hp) (Q : List (V × V) → Hp → Prop), (∀ vs : List (Key × V), vs.length = kvs.length → (∀ F, KR X.K F vs kvs) → Q (vs.map fun kv => (kV kv.1, kv.2)) H) → tPairs trs σ H Q
theorem ppc_nil {X : Cx} {pos : Pos} : PPC X pos [] [] [] := ⟨[], pps_nil, fun σ H Q q => q [] rfl fun F => .nil⟩
theorem ppc_str {X : Cx} {pos : Pos} {k v : Str} {i1 i2 : Nat} {p1 p2 : Pos} {ks : List (Option Expr)} {vs : List Expr} {kvs : List (Key × D)} (h : PPC X pos ks vs kvs) :
    PPC X pos (some (.Constant (.str k) i1 p1) :: ks) (.Constant (.str v) i2 p2 :: vs) ((.inr k, .str v) :: kvs) := by
  obtain ⟨trs, p, h⟩ := h.ex
  refine ⟨_, pps_cons pe_str pe_str p, fun σ H Q q => ?_⟩
  exact h σ H _ fun ws hl kr => q ((.inr k, .str v) :: ws) (by simp [hl]) fun F => .cons (.str v) (kr F)
theorem pmd_texts {X : Cx} {T : List Addr} {pos : Pos} {keys : List (Option Expr)} {values : List Expr} {kvs : List (Key × D)} (h : PPC X pos keys values kvs) (hall : keys.all (·.isSome) = true := by rfl) (hl : keys.length = values.length := by rfl) (h0 : keys ≠ [] := by simp)
    (h15 : keys.length ≤ 15 := by decide) (hk : kvs.length ≤ 15 := by decide) : PMD T X (.Dict keys values pos) (pureM (mergeP [] kvs)) := by
  obtain ⟨trs, p, h⟩ := h.ex
  refine ⟨_, pe_disp p hall hl h0 h15, fun dk dc F0 H0 F H σ st st' d Q c hm q => ?_⟩
  obtain ⟨rfl, rfl⟩ := pureM_some hm
  intro a ha
  refine h σ _ _ fun ws hl kr => ⟨upd_same, ws, rfl, by omega, ?_⟩
  have := q a _ F H (Ext.refl F) c ha (KR.merge (kr F) .nil)
  rwa [show upd (upd H a (.dK [])) a (.dK (mergeK [] ws)) = upd H a (.dK (mergeK [] ws)) from by funext b; unfold upd; split <;> rfl]
end GA

set_option Elab.async false
set_option linter.all false
set_option maxRecDepth 100000
set_option maxHeartbeats 2000000
/-! the end of a law whose promise wants that no repr is under way -/
namespace GA
open PySem PySem.Spec PyProof.Rows L2 GenW

/-- what the law's own call starts from: the tables, and the script when it is not a constant -/
structure Begin (P : Program) (w : World) (K : PySem.W.Frag) (ts : List Addr) (a : Addr) (ns : List Int) (h : Heap) (H : Hp) : Prop where
  tab : ∀ b ∈ ts, H b = some (.tbl #[])
  kind : ∀ b u, H b = some u → b ∈ ts ∨ (b = a ∧ K.lookup a = none ∧ ∃ o xs, u = .frz o (.lst xs))
  seq : SqL K H a (ns.map V.int)
  ok : HOk P w H h
theorem begin_ex {P : Program} {w : World} {K : PySem.W.Frag} {ts : List Addr} {a : Addr} {ns : List Int} {vs : List Value} {h : Heap} (KX : K.In h) (hT : ∀ b ∈ ts, h.get? b = some { cls := .none, data := .fields #[] }) (na : a ∉ ts)
    (ha : h.get? a = some { cls := .type "list", data := .seq vs.toArray }) (hi : IntsAre vs ns) (hl : ns.length ≤ sizeLine) : ∃ H, Begin P w K ts a ns h H := by
  have rv := vals_ints hi
  have lv := hi.length
  cases hk : K.lookup a with
  | some o =>
    have e := KX a o hk
    rw [ha] at e
    cases e
    refine ⟨fun b => if b ∈ ts then some (.tbl #[]) else none, fun b hb => if_pos hb, fun b u z => ?_, .inr ⟨_, vs.toArray, _, hk, rfl, rfl, rfl, ?_, ?_⟩, fun b u z => ?_⟩
    · by_cases hb : b ∈ ts
      · exact .inl hb
      · simp [hb] at z
    · rw [List.size_toArray, lv]; exact hl
    · simpa using rv
    · by_cases hb : b ∈ ts
      · simp only [hb, if_true, Option.some.injEq] at z
        subst z
        exact hT b hb
      · simp [hb] at z
  | none =>
    refine ⟨upd (fun b => if b ∈ ts then some (.tbl #[]) else none) a (.frz { cls := .type "list", data := .seq vs.toArray } (.lst (ns.map V.int))), fun b hb => ?_, fun b u z => ?_, .inl (.inr ⟨_, upd_same⟩), fun b u z => ?_⟩
    · rw [upd_ne (fun q => na (by rw [← q]; exact hb))]; exact if_pos hb
    · by_cases hb : b = a
      · subst hb
        rw [upd_same] at z
        cases z
        exact .inr ⟨rfl, hk, _, _, rfl⟩
      · rw [upd_ne hb] at z
        by_cases hb2 : b ∈ ts
        · exact .inl hb2
        · simp [hb2] at z
    · by_cases hb : b = a
      · subst hb
        rw [upd_same] at z
        cases z
        exact ⟨ha, by rw [List.length_map]; exact hl, vs, _, rv, ha⟩
      · rw [upd_ne hb] at z
        by_cases hb2 : b ∈ ts
        · simp only [hb2, if_true, Option.some.injEq] at z
          subst z
          exact hT b hb2
        · simp [hb2] at z
section
variable {P : Program} {w : World} {K : PySem.W.Frag} {mg mb : Str → Option Value} {k : Nat} {fa a : Addr} {cs : List (Addr × Addr)} {fd : FuncData} {x : Str} {sp : Sp} {s : Shared} {vs : List Value} {ns : List Int} {H : Hp}
/-- what is not tracked lies in the hidden part -/
theorem Begin.untracked {ts : List Addr} (B : Begin P w K ts a ns s.heap H) (ha : s.heap.get? a = some { cls := .type "list", data := .seq vs.toArray }) (hT : ∀ b ∈ ts, s.heap.get? b = some { cls := .none, data := .fields #[] }) {b : Addr} {o : Obj} (e : s.heap.get? b = some o)
    (h1 : ∀ us n, o.data ≠ .seq us n) (h2 : o.data ≠ .fields #[]) : (hidT s.heap H).get? b = some o := by
  apply hidT_get e
  cases q : H b with
  | none => rfl
  | some u =>
    exfalso
    rcases B.kind b u q with hb | ⟨rfl, _⟩
    · have := hT b hb
      rw [e] at this
      exact h2 (by rw [Option.some.inj this])
    · rw [e] at ha
      exact h1 _ _ (by rw [Option.some.inj ha])
theorem Begin.space {ts : List Addr} (B : Begin P w K ts a ns s.heap H) (ha : s.heap.get? a = some { cls := .type "list", data := .seq vs.toArray }) (hT : ∀ b ∈ ts, s.heap.get? b = some { cls := .none, data := .fields #[] }) {b : Addr} {m : Str → Option Value} (h : s.heap.Ns b m) : (hidT s.heap H).Ns b m := by
  obtain ⟨o, es, ep, e, d, r⟩ := h
  refine ⟨o, es, ep, B.untracked ha hT e (fun us n z => ?_) (fun z => ?_), d, r⟩ <;> (rw [d] at z; cases z)
theorem Begin.kin {ts : List Addr} (B : Begin P w K ts a ns s.heap H) (KX : K.In s.heap) (nT : ∀ b ∈ ts, K.lookup b = none) : K.In (hidT s.heap H) := fun b o e => by
  apply hidT_get (KX b o e)
  cases q : H b with
  | none => rfl
  | some u =>
    exfalso
    rcases B.kind b u q with hb | ⟨rfl, hk, _⟩
    · rw [nT b hb] at e; cases e
    · rw [hk] at e; cases e
theorem run_law (KX : K.In s.heap) (hns : s.heap.Ns mainGlobals mg) (hb : s.heap.Ns builtinsNs mb) (hbb : ∀ x : Str, x ≠ "__name__" → mb x = bootBuiltins x) (hlim : s.heap.NoLimit) (hg : s.gens = #[])
    (hT : ∀ p ∈ cs, s.heap.get? p.2 = some { cls := .none, data := .fields #[] }) (nT : ∀ p ∈ cs, K.lookup p.2 = none) (C : ∀ p ∈ cs, PySem.W.CodeHd s.heap p.1 p.2)
    (hbm : ∃ (bm : Addr) (ob : Obj), mg "__builtins__" = some (.ref bm) ∧ bm ≠ builtinsNs ∧ s.heap.get? bm = some ob ∧ ob.cls = .type "module" ∧ ob.dict = some builtinsNs ∧ ob.data = .plain)
    (ha : s.heap.get? a = some { cls := .type "list", data := .seq vs.toArray }) (hi : IntsAre vs ns) (hl : ns.length ≤ sizeLine) (rq : RoomQ k callerA)
    (F : ∀ base : Heap, K.In base → base.Ns mainGlobals mg → (∀ p ∈ cs, GxR.TabB base mg p.1 p.2) → FnQ P w K mg base CX0 k fa fd [x] sp) (bind : ∀ (s : Shared) (u : Value), BindsTo s fd ⟨[u], []⟩ [(x, u)])
    (hsp : ∀ H : Hp, (∀ p ∈ cs, H p.2 = some (.tbl #[])) → SqL K H a (ns.map V.int) → sp [.ref a] H (fun v _ => v = .bl true) fun _ _ _ => False) :
    codeAny (model P w) callerA (.call (.ref fa) ⟨[.ref a], []⟩) (fun r s' => r = .ok (.ret (.bool true)) ∧ OldK s.heap s'.heap ∧ s'.os = s.os ∧ AllBare s'.gens) s := by
  have hT' : ∀ b ∈ cs.map (·.2), s.heap.get? b = some { cls := .none, data := .fields #[] } := fun b hb => by
    obtain ⟨p, hp, rfl⟩ := List.mem_map.mp hb
    exact hT p hp
  have nT' : ∀ b ∈ cs.map (·.2), K.lookup b = none := fun b hb => by
    obtain ⟨p, hp, rfl⟩ := List.mem_map.mp hb
    exact nT p hp
  have up : ∀ {p : Addr × Addr}, p ∈ cs → p.2 ∈ cs.map (·.2) := fun {p} hp => List.mem_map.mpr ⟨p, hp, rfl⟩
  have na : a ∉ cs.map (·.2) := fun z => by
    have q := hT' a z
    rw [ha] at q
    have := congrArg Obj.data (Option.some.inj q)
    cases (this : Data.seq vs.toArray _ = Data.fields #[])
  obtain ⟨H, B⟩ := begin_ex (P := P) (w := w) KX hT' na ha hi hl
  have spc : ∀ {b : Addr} {m : Str → Option Value}, s.heap.Ns b m → (hidT s.heap H).Ns b m := fun h => B.space ha hT' h
  have kin := B.kin KX nT'
  have md : L2.Mod K mg (hidT s.heap H) := ⟨kin, spc hns, ⟨mb, spc hb, hbb⟩, let ⟨mc, h1, h2⟩ := hlim; ⟨mc, spc h1, h2⟩⟩
  have tbs : ∀ p ∈ cs, GxR.TabB (hidT s.heap H) mg p.1 p.2 := fun p hp => by
    have at_ := hT p hp
    constructor
    · obtain ⟨o, us, file, tf, flags, tg, inF, text, tt, e1, r1, r2, r3, r⟩ := C p hp
      refine ⟨o, us, file, tf, flags, tg, inF, text, tt, B.untracked ha hT' e1 (fun vs n z => ?_) (fun z => ?_), r1, r2, r3, r⟩
      · rw [r2] at z; cases z
      · rw [r2] at z
        cases z
        simp at r3
    · obtain ⟨bm, ob, b1, b2, b3, b4, b5, b6⟩ := hbm
      refine ⟨bm, ob, b1, b2, fun q => ?_, fun q => ?_, B.untracked ha hT' b3 (fun vs n z => ?_) (fun z => ?_), b4, b5, b6⟩
      · obtain ⟨o, es, ep, e, hd, _⟩ := hns
        rw [q, e] at b3
        cases b3
        rw [hd] at b6; cases b6
      · rw [q, at_] at b3
        cases b3
        cases b6
      · rw [b6] at z; cases z
      · rw [b6] at z; cases z
    · intro z
      obtain ⟨o, es, ep, e, hd, _⟩ := hns
      rw [z, at_] at e
      cases e
      cases hd
  have env : Env0 P w K mg (hidT s.heap H) callerA [] s H := ⟨rfl, md, fun b o e => of_hidT e, Nat.le_of_eq (hidT_size _ _), trivial, fun b hb => absurd (show b ∈ ([] : List Addr) from hb) (by simp), B.ok, .of_eq hg⟩
  have run := (F _ kin (spc hns) tbs).go callerA [] s H ⟨[.ref a], []⟩ [.ref a] [.ref a] _ _ rq env (bind s (.ref a)) (.cons rfl .nil) (hsp H (fun p hp => B.tab _ (up hp)) B.seq)
  apply codeAny_mono run
  rintro (e | fl) s' h
  · exact h.elim
  cases fl with
  | ret u =>
    obtain ⟨v, H', os, bare, un, ok', rv, (rfl : v = .bl true)⟩ := h
    obtain rfl : u = Value.bool true := rv
    have more : ∀ {b : Addr}, b ∈ cs.map (·.2) → ∃ m : Array Value, s'.heap.get? b = some { cls := .none, data := .fields m } := fun {b} hb => by
      obtain ⟨m, z⟩ := un.tbls b #[] (B.tab b hb)
      exact ⟨_, ok' b _ z⟩
    have same : ∀ {b : Addr} {o : Obj}, b ∉ cs.map (·.2) → s.heap.get? b = some o → s'.heap.get? b = some o := fun {b o} nb e => by
      cases q : H b with
      | none => exact un.keep b o e q (fun z => absurd (show b ∈ ([] : List Addr) from z) (by simp)) (by simp)
      | some u =>
        rcases B.kind b u q with hb | ⟨rfl, _, ob, xs, rfl⟩
        · exact absurd hb nb
        · have e1 := (B.ok _ _ q).1
          have e2 := (ok' _ _ (un.frzs _ ob _ q)).1
          rw [e] at e1
          rw [e2, Option.some.inj e1]
    refine ⟨rfl, ⟨fun b o e => ?_, fun b o e => ?_⟩, os, bare⟩
    · by_cases hb : b ∈ cs.map (·.2)
      · obtain ⟨p, hp, rfl⟩ := List.mem_map.mp hb
        obtain ⟨m, hm⟩ := more hb
        rw [hT p hp] at e
        cases e
        exact .inr (.inl ⟨((C p hp).tab (hT p hp)).isCodeTable, rfl, #[], m, rfl, by rw [Array.empty_append]; exact hm⟩)
      · exact .inl (same hb e)
    · by_cases hb : b ∈ cs.map (·.2)
      · obtain ⟨m, hm⟩ := more hb
        exact ⟨_, hm⟩
      · exact ⟨o, same hb e⟩
  | next => exact h.elim
  | brk => exact h.elim
  | cont => exact h.elim
end
/-- the law's promise at the head's heap -/
def LawQ (l : PySem.W.OpenLaw) (w : World) (K : PySem.W.Frag) (k n : Nat) (x : Str) (mg : Str → Option Value) (fa : Addr) (h : Heap) : Prop :=
  ∃ (fd : FuncData) (cs : List (Addr × Addr)) (sp : Sp), (∀ p ∈ cs, h.get? p.2 = some { cls := .none, data := .fields #[] }) ∧ (∀ p ∈ cs, K.lookup p.2 = none) ∧ (∀ p ∈ cs, PySem.W.CodeHd h p.1 p.2) ∧ (∀ (s : Shared) (u : Value), BindsTo s fd ⟨[u], []⟩ [(x, u)]) ∧
    (∀ (H : Hp) (a : Addr) (ns : List Int), ns.length ≤ n → (∀ z ∈ ns, Builtin.Int.intBits z ≤ 1048576) → (∀ p ∈ cs, H p.2 = some (.tbl #[])) → SqL K H a (ns.map V.int) → sp [.ref a] H (fun v _ => v = .bl true) fun _ _ _ => False) ∧
    ∀ base : Heap, K.In base → base.Ns mainGlobals mg → (∀ p ∈ cs, GxR.TabB base mg p.1 p.2) → FnQ l.prog w K mg base CX0 k fa fd [x] sp
theorem walk_law {l : PySem.W.OpenLaw} {n k : Nat} {q : Program} {loose : List Str} {XP : (Str → Option Value) → Heap → Prop} {YP : World → Heap → Prop} {d : DefRec} {K : Params → PySem.W.Frag} {x : Str} (hn : l.most = some n) (hn2 : n ≤ sizeLine) (hdf : d.params.defaults = []) (rq : RoomQ k callerA)
    (hY : ∀ (w : World) (h : Heap), YP w h → (K w.params).In h)
    (F : ∀ (w : World) (mg : Str → Option Value) (fa : Addr) (h : Heap), YP w h → (K w.params).In h → h.Ns mainGlobals mg → mg d.name = some (.ref fa) →
      (∀ (nm : Str) (ga : Addr), ((recsOf q).any fun e => e.name == nm) = true → mg nm = some (.ref ga) → LamX.OwnTab (K w.params) ga h) → LawQ l w (K w.params) k n x mg fa h) :
    PySem.W.WalkO q loose XP YP l.row.toRowW d [] (fun f vs => PySem.call f vs) := by
  apply Att.attach_callB hn hdf
  intro w s₀ s₁ mg mb fa o pm cd doc a vs ns G Y ho hd hcd hmg hobj hints hlen hbits hg
  have KX := hY w _ Y
  have tabs : ∀ (nm : Str) (ga : Addr), ((recsOf q).any fun e => e.name == nm) = true → mg nm = some (.ref ga) → LamX.OwnTab (K w.params) ga s₁.heap := by
    intro nm ga hr hm c P fo fr e dd us sl lk hf hco lc hP
    obtain ⟨r, hr1, hr2⟩ := List.any_eq_true.mp hr
    have er : r.name = nm := eq_of_beq hr2
    obtain ⟨g, go, gf, gc, gP, t1, t2, t3, t4, t5, ⟨oc, vc, t6, _, t7, t8⟩, tP⟩ := G.T.tab r hr1
    have eg : g = ga := by
      rw [er, hm] at t1
      cases t1; rfl
    subst eg
    have same : fo = go := Option.some.inj ((KX _ _ lk).symm.trans t2)
    subst same
    have sameF : fr = gf := by
      rw [hf] at t3
      cases t3; rfl
    subst sameF
    have sameC : c = gc := by
      rw [hco] at t4
      cases t4; rfl
    subst sameC
    have sameO := Option.some.inj ((KX _ _ lc).symm.trans t6)
    subst sameO
    have sameV : us = vc := by cases t7; rfl
    subst sameV
    have sameP : P = gP := by
      rw [hP] at t8
      cases t8; rfl
    subst sameP
    exact tP
  obtain ⟨fd, cs, sp, hT, nT, C, hb, hsp, hF⟩ := F w mg fa _ Y KX G.T.g hmg tabs
  exact run_law KX G.T.g G.T.b G.T.builtins G.T.nolimit hg hT nT C G.T.bmain hobj hints (Nat.le_trans hlen hn2) rq hF hb fun H hH hS => hsp H a ns hlen hbits hH hS
end GA

set_option Elab.async false
set_option linter.all false
set_option maxRecDepth 100000
set_option maxHeartbeats 2000000
/-! the deck is made -/
namespace GA
open PySem PySem.Spec PyProof.Rows L2 GenW

def mixStep (A B C M m c : Int) : Int := (m * A + c % B + C) % M
def mixAll (c0 A B C M : Int) (ns : List Int) : Int := ns.foldl (mixStep A B C M) c0
abbrev rInt1 : List V → Hp → VK → Prop := fun xs H Q => (∃ i, xs = [.int i] ∧ Q (.int i) H) ∨ ∃ k, xs = [.bl k] ∧ Q (.int (if k then 1 else 0)) H
abbrev rListOf (K : PySem.W.Frag) : List V → Hp → VK → Prop := fun xs H Q => ∃ p ys, xs = [.ref p] ∧ (SqL K H p ys ∨ SqT K H p ys) ∧ ∀ l, H l = none → Q (.ref l) (upd H l (.lst ys))
/-- script[:n] -/
abbrev tHead (K : PySem.W.Frag) (n : Int) : TE := tSl (rSlL K) (tVar 0) tNoPart (tPart (tC (.int n)))
abbrev tMix (A B C M : Int) : TE := tOp (rI (fun _ j => 0 < j) fun i j => .int (i % j)) (tCB rInt1 (tCons (tOp (rI0 fun i j => .int (i + j)) (tOp (rI0 fun i j => .int (i + j)) (tOp (rI CMulW fun i j => .int (i * j)) (tVar 1) (tC (.int A)))
  (tOp (rI (fun _ j => 0 < j) fun i j => .int (i % j)) (tCB rInt1 (tCons (tVar 2) tNil)) (tC (.int B)))) (tC (.int C))) tNil)) (tC (.int M))
def tDeck (K : PySem.W.Frag) (c0 A B C M n : Int) : TS := tSeq (tAsg (tC (.int c0)) (gName 1)) (tSeq (tFor (iList K (tHead K n)) (gName 2) (tAsg (tMix A B C M) (gName 1)))
  (tRet (tDisp [(tC (.str "cells"), tRevL K (tCB (rListOf K) (tCons (tHead K n) tNil))), (tC (.str "mixed"), tVar 1), (tC (.str "draws"), tC (.int 0))])))
def spDeck (K : PySem.W.Frag) (c0 A B C M : Int) (n : Nat) : Sp := fun vs H Q _ => ∃ (a : Addr) (ns : List Int), vs = [.ref a] ∧ SqL K H a (ns.map V.int) ∧ ∀ (dk dc : Addr) (H' : Hp), (∀ b o, H b = some o → H' b = some o) → H dk = none → H dc = none →
  H' dk = some (.dK [(.inr "cells", .ref dc), (.inr "mixed", .int (mixAll c0 A B C M (ns.take n))), (.inr "draws", .int 0)]) → H' dc = some (.lst ((ns.take n).reverse.map V.int)) → Q (.ref dk) H'
theorem cut_head (ns : List Int) (n : Nat) : cutV (ns.map V.int) none (some (n : Int)) = (ns.take n).map V.int := by
  unfold cutV
  rw [HT.sIx_none, HT.sIx_nat, List.length_map, List.drop_zero, Nat.sub_zero, ← List.map_take]
  congr 1
  by_cases h : n ≤ ns.length
  · rw [Nat.min_eq_left h]
  · rw [Nat.min_eq_right (by omega), List.take_length, List.take_of_length_le (by omega)]
theorem log_small {i : Int} (h1 : -(2 ^ 64) < i) (h2 : i < 2 ^ 64) : i.natAbs.log2 < 64 := by
  have : i.natAbs < 2 ^ 64 := by omega
  by_cases h : i.natAbs = 0
  · rw [h]; decide
  · exact (Nat.log2_lt h).mpr this
theorem mix_range {A B C M m c : Int} (h : 0 < M) : 0 ≤ mixStep A B C M m c ∧ mixStep A B C M m c < M := ⟨Int.emod_nonneg _ (by omega), Int.emod_lt_of_pos _ h⟩
theorem tDeck_run {K : PySem.W.Frag} {c0 A B C M : Int} {n : Nat} (hB : 0 < B) (hM : 0 < M) (hM2 : M < 2 ^ 64) (hA : -(2 ^ 64) < A ∧ A < 2 ^ 64) (hc : -(2 ^ 64) < c0 ∧ c0 < 2 ^ 64) {vs : List V} {H : Hp} {Q : VK} {E : XK} (h : spDeck K c0 A B C M n vs H Q E) :
    tDeck K c0 A B C M n { nx := fun _ H' => Q .non H', rt := Q } (L2.start ["_law_script", "_law_mixed", "_law_cell"] vs) H := by
  obtain ⟨a, ns, rfl, hs, q⟩ := h
  show tDeck K c0 A B C M n _ [some (.ref a), none, none] H
  unfold tDeck
  refine ⟨.ref a, rfl, (n : Int), rfl, a, ns.map V.int, rfl, hs, fun p0 hp0 => ?_⟩
  rw [cut_head]
  have h0 : ∀ b o, H b = some o → upd H p0 (.lst ((ns.take n).map V.int)) b = some o := fun b o e => by rw [upd_ne (ne_of_none e hp0)]; exact e
  have sq0 : SqL K (upd H p0 (.lst ((ns.take n).map V.int))) p0 ((ns.take n).map V.int) := .inl (.inl upd_same)
  refine ⟨p0, rfl, ⟨_, sq0⟩, fun i m σ H1 => H1 = upd H p0 (.lst ((ns.take n).map V.int)) ∧ i + m = (ns.take n).length ∧ ∃ y, σ = [some (.ref a), some (.int (mixAll c0 A B C M ((ns.take n).take i))), y], ⟨_, rfl, Nat.zero_add _, none, rfl⟩, ?_⟩
  rintro i m σ _ ⟨rfl, him, y, rfl⟩
  by_cases hi : i < (ns.take n).length
  · have g : ((ns.take n).map V.int)[i]? = some (.int (ns.take n)[i]) := by rw [List.getElem?_map, List.getElem?_eq_getElem hi]; rfl
    refine .inr ⟨⟨_, _, sq0, g⟩, fun σ' H' => H' = upd H p0 (.lst ((ns.take n).map V.int)) ∧ i + 1 + (m - 1) = (ns.take n).length ∧ ∃ y, σ' = [some (.ref a), some (.int (mixAll c0 A B C M ((ns.take n).take (i + 1)))), y], ?_, ?_⟩
    · rintro σ' H' ⟨e1, e2, e3⟩
      exact ⟨m - 1, by omega, e1, e2, e3⟩
    · rintro x H' ⟨rfl, fx⟩
      have ex : x = .int (ns.take n)[i] := Option.some.inj ((fx _ sq0).symm.trans g)
      subst ex
      have small : (mixAll c0 A B C M ((ns.take n).take i)).natAbs.log2 < 64 := by
        unfold mixAll
        rcases List.eq_nil_or_concat ((ns.take n).take i) with e | ⟨l, z, e⟩
        · rw [e]; exact log_small hc.1 hc.2
        · rw [e, List.concat_eq_append, List.foldl_append]
          have := mix_range (A := A) (B := B) (C := C) (M := M) (m := List.foldl (mixStep A B C M) c0 l) (c := z) hM
          exact log_small (by show _ < mixStep A B C M _ z; omega) (by show mixStep A B C M _ z < _; omega)
      have small2 := log_small hA.1 hA.2
      refine ⟨_, rfl, _, _, rfl, rfl, (show _ + _ < 1000000 from by omega), ?_⟩
      refine ⟨_, rfl, .inl ⟨_, rfl, _, _, rfl, rfl, hB, _, _, rfl, rfl, _, _, rfl, rfl, .inl ⟨_, rfl, _, _, rfl, rfl, hM, rfl, by omega, some (.int (ns.take n)[i]), ?_⟩⟩⟩
      have e : mixAll c0 A B C M ((ns.take n).take (i + 1)) = mixStep A B C M (mixAll c0 A B C M ((ns.take n).take i)) (ns.take n)[i] := by
        unfold mixAll
        rw [List.take_add_one, List.getElem?_eq_getElem hi, List.foldl_append]
        rfl
      rw [e]
      rfl
  · have e0 : (ns.take n).take i = ns.take n := List.take_of_length_le (by omega)
    rw [e0]
    refine .inl ⟨⟨_, sq0, by rw [List.length_map]; omega⟩, ?_⟩
    intro p hp
    have s1 : ∀ b o, H b = some o → upd (upd H p0 (.lst ((ns.take n).map V.int))) p (.dK []) b = some o := fun b o e => by
      have e1 := h0 b o e
      rw [upd_ne (ne_of_none e1 hp)]; exact e1
    refine ⟨.ref a, rfl, (n : Int), rfl, a, ns.map V.int, rfl, Ext.sqL s1 hs, fun p1 hp1 => ?_⟩
    rw [cut_head]
    refine ⟨p1, _, rfl, .inl (.inl (.inl upd_same)), fun p2 hp2 => ?_⟩
    refine ⟨p2, _, rfl, .inl (.inl upd_same), fun p3 hp3 => ?_⟩
    refine ⟨_, rfl, ?_⟩
    have np0 : H p0 = none := hp0
    have np : H p = none := by
      have := hp
      by_cases z : p = p0
      · rw [z, upd_same] at this; cases this
      · rw [upd_ne z] at this; exact this
    generalize hG : upd (upd H p0 (.lst ((ns.take n).map V.int))) p (.dK []) = G at *
    have dG : G p = some (.dK []) := by rw [← hG, upd_same]
    have n1 : p ≠ p1 := ne_of_none dG hp1
    have d1 : upd G p1 (.lst ((ns.take n).map V.int)) p = some (.dK []) := by rw [upd_ne n1]; exact dG
    have n2 : p ≠ p2 := ne_of_none d1 hp2
    have d2 := (upd_ne (h := n2) (H := upd G p1 (.lst ((ns.take n).map V.int))) (o := .lst ((ns.take n).map V.int))).trans d1
    have n3 : p ≠ p3 := ne_of_none d2 hp3
    have m3 : H p3 = none := by
      cases z : H p3 with
      | none => rfl
      | some o =>
        have e1 := s1 p3 o z
        have q1 : p3 ≠ p1 := ne_of_none e1 hp1
        have e2 : upd G p1 (.lst ((ns.take n).map V.int)) p3 = some o := by rw [upd_ne q1]; exact e1
        have q2 : p3 ≠ p2 := ne_of_none e2 hp2
        rw [upd_ne q2, e2] at hp3
        cases hp3
    refine ⟨by rw [upd_ne n3]; exact d2, [(.inr "cells", .ref p3), (.inr "mixed", .int (mixAll c0 A B C M (ns.take n))), (.inr "draws", .int 0)], rfl, (show 3 ≤ 15 from by decide), q p p3 _ (fun b o e => ?_) np m3 ?_ ?_⟩
    · have e1 := s1 b o e
      have q1 : b ≠ p1 := ne_of_none e1 hp1
      have e2 : upd G p1 (.lst ((ns.take n).map V.int)) b = some o := by rw [upd_ne q1]; exact e1
      have q2 : b ≠ p2 := ne_of_none e2 hp2
      have q3 : b ≠ p3 := fun z => by rw [z, m3] at e; cases e
      have q4 : b ≠ p := fun z => by rw [z, np] at e; cases e
      rw [upd_ne q4, upd_ne q3, upd_ne q2]
      exact e2
    · rw [upd_same]
      rfl
    · rw [upd_ne (Ne.symm n3), upd_same, List.map_reverse]
end GA

set_option Elab.async false
set_option linter.all false
set_option maxRecDepth 100000
set_option maxHeartbeats 2000000
/-! a law: its deck, then the rest by a program over data -/
namespace GA
open PySem PySem.Spec PyProof.Rows L2 GenW

def lawR (dk : Addr) (k : Nat) : List Slot := .un :: .dat (.raw (.ref dk)) :: List.replicate k .un
def spLaw (K : PySem.W.Frag) (T : List Addr) : Sp := fun vs H Q _ => ∃ (a : Addr) (ns : List Int), vs = [.ref a] ∧ SqL K H a (ns.map V.int) ∧ (∀ P ∈ T, GxR.TabG H P) ∧ ∀ H', Q (.bl true) H'
theorem law_run {K : PySem.W.Frag} {T : List Addr} {N : List Str} {c0 A B C D0 : Int} {n k : Nat} {m : M Fl} {t : TS} {vs : List V} {H : Hp} {Q : VK} {E : XK} (hN : N.length = k + 2)
    (ht : ∀ (dk dc : Addr) (F0 H0 F H : Hp) (σ : L2.St) (st st' : Sta) (fl : Fl) (De : Ends), Cfg K T dk dc F0 H0 F H σ st → m st = some (fl, st') → After K T dk dc F0 H0 F De fl st' → t De σ H)
    (math : ∀ s : S, s.draws = 0 → s.cells.length ≤ n → (∃ ns : List Int, s.mixed = mixAll c0 A B C D0 ns) → ∃ st', m ⟨s, lawR s.dk k⟩ = some (.rt (.bl true), st')) (h : spLaw K T vs H Q E) :
    tSeq (tAsg (tCall (spDeck K c0 A B C D0 n) [] E0 (tCons (tVar 0) tNil)) (gName 1)) t { nx := fun _ H' => Q .non H', rt := Q } (L2.start N vs) H := by
  obtain ⟨a, ns, rfl, hs, tb, q⟩ := h
  have est : L2.start N [V.ref a] = some (.ref a) :: none :: List.replicate k none := by
    unfold L2.start
    rw [hN]
    show some (V.ref a) :: List.replicate (k + 2 - 1) none = _
    rw [show k + 2 - 1 = k + 1 from rfl, List.replicate_succ]
  rw [est]
  refine ⟨.ref a, rfl, a, ns, rfl, hs, fun dk dc H1 keep n1 n2 hd hc => ?_⟩
  show t _ (some (.ref a) :: some (.ref dk) :: List.replicate k none) H1
  obtain ⟨st', hm⟩ := math ⟨dk, (ns.take n).reverse, mixAll c0 A B C D0 (ns.take n), 0⟩ rfl (by show (ns.take n).reverse.length ≤ n; rw [List.length_reverse, List.length_take]; exact Nat.min_le_left _ _) ⟨_, rfl⟩
  refine ht dk dc (fun _ => none) H1 (fun _ => none) H1 _ ⟨⟨dk, (ns.take n).reverse, mixAll c0 A B C D0 (ns.take n), 0⟩, lawR dk k⟩ st' _ _ ⟨fun b o e => (by cases e), Base.refl, ⟨⟨rfl, rfl⟩, rfl, hd, hc⟩, fun P hP => ?_, ?_⟩ hm ?_
  · obtain ⟨ps, h1, h2⟩ := tb P hP
    exact ⟨ps, keep _ _ h1, h2⟩
  · have no : ∀ (i : Nat) y, (lawR dk k)[i]? = some y → y = .un ∨ (i = 1 ∧ y = .dat (.raw (.ref dk))) := fun i y hy => by
      match i, hy with
      | 0, hy => cases hy; exact .inl rfl
      | 1, hy => cases hy; exact .inr ⟨rfl, rfl⟩
      | j + 2, hy =>
        have hy : (List.replicate k Slot.un)[j]? = some y := hy
        rw [List.getElem?_replicate] at hy
        split at hy
        · cases hy; exact .inl rfl
        · cases hy
    refine ⟨by simp [lawR], fun i d hd => ?_, fun i xs hx => ?_, fun i xs hx => ?_, fun i j b _ h1 _ _ => ?_⟩
    · rcases no i _ hd with z | ⟨rfl, z⟩
      · cases z
      · cases z; exact ⟨_, rfl, .raw _⟩
    · rcases no i _ hx with z | ⟨_, z⟩ <;> cases z
    · rcases no i _ hx with z | ⟨_, z⟩ <;> cases z
    · obtain ⟨y, g1, g2, g3⟩ := h1
      rcases no i _ g1 with z | ⟨_, z⟩
      · exact absurd z g3
      · exact absurd z (g2 _)
  · intro v F' H' _ _ r
    obtain rfl := r.bl_inv
    exact q H'
end GA

set_option Elab.async false
set_option linter.all false
set_option maxRecDepth 100000
set_option maxHeartbeats 2000000
/-! what a program over data comes to -/
namespace GA
open PySem PySem.Spec PyProof.Rows L2 GenW

def Wp {α : Type} (m : M α) (st : Sta) (Q : α → Sta → Prop) : Prop := ∃ a st', m st = some (a, st') ∧ Q a st'
section
variable {α β : Type} {m : M α} {k : α → M β} {st : Sta} {Q : β → Sta → Prop} {P P' : α → Sta → Prop} {a : α} {o : Option α}
theorem Wp.mono (h : Wp m st P) (f : ∀ a st', P a st' → P' a st') : Wp m st P' := let ⟨a, st', e, p⟩ := h; ⟨a, st', e, f a st' p⟩
theorem wp_bind : Wp (bindM m k) st Q ↔ Wp m st fun a st1 => Wp (k a) st1 Q := by
  constructor
  · rintro ⟨b, st', e, q⟩
    obtain ⟨a, st1, e1, e2⟩ := bindM_some e
    exact ⟨a, st1, e1, b, st', e2, q⟩
  · rintro ⟨a, st1, e1, b, st', e2, q⟩
    exact ⟨b, st', by unfold bindM; rw [e1]; exact e2, q⟩
theorem wp_pure : Wp (pureM a) st P ↔ P a st := ⟨fun ⟨b, st', e, q⟩ => by obtain ⟨rfl, rfl⟩ := pureM_some e; exact q, fun q => ⟨a, st, rfl, q⟩⟩
theorem wp_lift : Wp (liftM o) st P ↔ ∃ a, o = some a ∧ P a st := ⟨fun ⟨b, st', e, q⟩ => by obtain ⟨h, rfl⟩ := liftM_some e; exact ⟨b, h, q⟩, fun ⟨a, h, q⟩ => ⟨a, st, liftM_pair h, q⟩⟩
theorem wp_lift_some : Wp (liftM (some a)) st P ↔ P a st := by rw [wp_lift]; exact ⟨fun ⟨b, e, q⟩ => by cases e; exact q, fun q => ⟨a, rfl, q⟩⟩
theorem wp_ite {c : Prop} [Decidable c] {m1 m2 : M α} : Wp (if c then m1 else m2) st P ↔ if c then Wp m1 st P else Wp m2 st P := by
  by_cases h : c
  · rw [if_pos h, if_pos h]
  · rw [if_neg h, if_neg h]
theorem wp_of {a : α} {st' : Sta} (e : m st = some (a, st')) (q : P a st') : Wp m st P := ⟨a, st', e, q⟩
end
section
variable {st : Sta} {P : D → Sta → Prop} {PB : Bool → Sta → Prop} {PU : Unit → Sta → Prop} {PF : Fl → Sta → Prop} {PL : List D → Sta → Prop} {a b : M D} {f g : D → D → Option D} {ml : M (List D)} {fl : List D → Option D} {t t2 : M Bool} {x y : M Fl} {s : S} {r : List Slot} {i : Nat} {d : D}
theorem wp_var {d : D} (h : st.r[i]? = some (.dat d)) : Wp (varM i) st P ↔ P d st := by
  have e : varM i st = some (d, st) := by unfold varM; rw [h]
  exact ⟨fun ⟨b, st', e', q⟩ => by rw [e] at e'; cases e'; exact q, fun q => ⟨d, st, e, q⟩⟩
theorem wp_varO {xs : List D} (h : st.r[i]? = some (.own xs)) : Wp (varM i) st P ↔ P (.lst xs) { st with r := st.r.set i (.dat (.lst xs)) } := by
  have e : varM i st = some (.lst xs, { st with r := st.r.set i (.dat (.lst xs)) }) := by unfold varM; rw [h]
  exact ⟨fun ⟨b, st', e', q⟩ => by rw [e] at e'; cases e'; exact q, fun q => ⟨_, _, e, q⟩⟩
theorem wp_op2 : Wp (op2M f a b) st P ↔ Wp a st fun x s1 => Wp b s1 fun y s2 => ∃ d, f x y = some d ∧ P d s2 := by
  unfold op2M; rw [wp_bind]
  constructor
  · exact fun h => h.mono fun x s1 h => (wp_bind.mp h).mono fun y s2 h => wp_lift.mp h
  · exact fun h => h.mono fun x s1 h => wp_bind.mpr (h.mono fun y s2 h => wp_lift.mpr h)
theorem wp_test : Wp (testM a) st PB ↔ Wp a st fun x s1 => ∃ c, asB x = some c ∧ PB c s1 := by
  unfold testM; rw [wp_bind]
  exact ⟨fun h => h.mono fun x s1 h => wp_lift.mp h, fun h => h.mono fun x s1 h => wp_lift.mpr h⟩
theorem wp_callD : Wp (callD fl ml) st P ↔ Wp ml st fun ds s1 => ∃ d, fl ds = some d ∧ P d s1 := by
  unfold callD; rw [wp_bind]
  exact ⟨fun h => h.mono fun x s1 h => wp_lift.mp h, fun h => h.mono fun x s1 h => wp_lift.mpr h⟩
theorem wp_cons : Wp (consM a ml) st PL ↔ Wp a st fun x s1 => Wp ml s1 fun xs s2 => PL (x :: xs) s2 := by
  unfold consM; rw [wp_bind]
  exact ⟨fun h => h.mono fun x s1 h => (wp_bind.mp h).mono fun y s2 h => wp_pure.mp h, fun h => h.mono fun x s1 h => wp_bind.mpr (h.mono fun y s2 h => wp_pure.mpr h)⟩
theorem wp_call {n : Nat} {ff : List D → S → Option (D × S)} : Wp (callM n ff ml) st P ↔ Wp ml st fun ds s1 => ds.length = n ∧ ∃ d s', ff ds s1.s = some (d, s') ∧ P d ⟨s', s1.r⟩ := by
  constructor
  · rintro ⟨d, st', e, q⟩
    obtain ⟨ds, s1, s', h1, h2, h3, rfl⟩ := callM_some e
    exact ⟨ds, s1, h1, h2, d, s', h3, q⟩
  · rintro ⟨ds, s1, h1, h2, d, s', h3, q⟩
    refine ⟨d, ⟨s', s1.r⟩, ?_, q⟩
    unfold callM bindM
    rw [h1]
    simp only [h2, if_true]
    rw [h3]
theorem wp_seq : Wp (seqM x y) st PF ↔ Wp x st fun fl s1 => match fl with | .nx => Wp y s1 PF | .rt d => PF (.rt d) s1 | .bk => PF .bk s1 | .ct => PF .ct s1 := by
  unfold seqM; rw [wp_bind]
  constructor
  · exact fun h => h.mono fun fl s1 h => by cases fl <;> first | exact h | exact wp_pure.mp h
  · exact fun h => h.mono fun fl s1 h => by cases fl <;> first | exact h | exact wp_pure.mpr h
theorem wp_ret : Wp (retM a) st PF ↔ Wp a st fun d s1 => PF (.rt d) s1 := by
  unfold retM; rw [wp_bind]
  exact ⟨fun h => h.mono fun x s1 h => wp_pure.mp h, fun h => h.mono fun x s1 h => wp_pure.mpr h⟩
theorem wp_drop : Wp (dropM a) st PF ↔ Wp a st fun d s1 => PF .nx s1 := by
  unfold dropM; rw [wp_bind]
  exact ⟨fun h => h.mono fun x s1 h => wp_pure.mp h, fun h => h.mono fun x s1 h => wp_pure.mpr h⟩
theorem wp_asg {k : D → M Unit} : Wp (asgM a k) st PF ↔ Wp a st fun d s1 => Wp (k d) s1 fun _ s2 => PF .nx s2 := by
  unfold asgM; rw [wp_bind]
  exact ⟨fun h => h.mono fun x s1 h => (wp_bind.mp h).mono fun y s2 h => wp_pure.mp h, fun h => h.mono fun x s1 h => wp_bind.mpr (h.mono fun y s2 h => wp_pure.mpr h)⟩
theorem wp_ifS : Wp (ifS t x y) st PF ↔ Wp t st fun c s1 => if c = true then Wp x s1 PF else Wp y s1 PF := by
  unfold ifS; rw [wp_bind]
  constructor
  · exact fun h => h.mono fun c s1 h => by cases c <;> exact h
  · exact fun h => h.mono fun c s1 h => by cases c <;> exact h
theorem wp_ifM : Wp (ifM t a b) st P ↔ Wp t st fun c s1 => if c = true then Wp a s1 P else Wp b s1 P := by
  unfold ifM; rw [wp_bind]
  constructor
  · exact fun h => h.mono fun c s1 h => by cases c <;> exact h
  · exact fun h => h.mono fun c s1 h => by cases c <;> exact h
theorem wp_tgN : Wp (tgN i d) st PU ↔ PU () { st with r := st.r.set i (.dat d) } := ⟨fun ⟨b, st', e, q⟩ => by cases e; exact q, fun q => ⟨_, _, rfl, q⟩⟩
theorem wp_tOr : Wp (tOrM t t2) st PB ↔ Wp t st fun c s1 => if c = true then PB true s1 else Wp t2 s1 PB := by
  unfold tOrM; rw [wp_bind]
  constructor
  · exact fun h => h.mono fun c s1 h => by cases c <;> first | exact h | exact wp_pure.mp h
  · exact fun h => h.mono fun c s1 h => by cases c <;> first | exact h | exact wp_pure.mpr h
theorem wp_tAnd : Wp (tAndM t t2) st PB ↔ Wp t st fun c s1 => if c = true then Wp t2 s1 PB else PB false s1 := by
  unfold tAndM; rw [wp_bind]
  constructor
  · exact fun h => h.mono fun c s1 h => by cases c <;> first | exact h | exact wp_pure.mp h
  · exact fun h => h.mono fun c s1 h => by cases c <;> first | exact h | exact wp_pure.mpr h
theorem wp_tNot : Wp (tNotM t) st PB ↔ Wp t st fun c s1 => PB (!c) s1 := by
  unfold tNotM; rw [wp_bind]
  exact ⟨fun h => h.mono fun x s1 h => wp_pure.mp h, fun h => h.mono fun x s1 h => wp_pure.mpr h⟩
/-! the deck -/
theorem deckG_at (h : r[i]? = some (.dat (.raw (.ref s.dk)))) : deckG i ⟨s, r⟩ = true := by unfold deckG; rw [h]; exact decide_eq_true rfl
theorem wp_draws (h : r[i]? = some (.dat (.raw (.ref s.dk)))) : Wp (drawsM i) ⟨s, r⟩ P ↔ P (.int s.draws) ⟨s, r⟩ := by
  have e : drawsM i ⟨s, r⟩ = some (.int s.draws, ⟨s, r⟩) := by unfold drawsM; rw [if_pos (deckG_at h)]
  exact ⟨fun ⟨b, st', e', q⟩ => by rw [e] at e'; cases e'; exact q, fun q => ⟨_, _, e, q⟩⟩
theorem wp_mixed (h : r[i]? = some (.dat (.raw (.ref s.dk)))) : Wp (mixedM i) ⟨s, r⟩ P ↔ P (.int s.mixed) ⟨s, r⟩ := by
  have e : mixedM i ⟨s, r⟩ = some (.int s.mixed, ⟨s, r⟩) := by unfold mixedM; rw [if_pos (deckG_at h)]
  exact ⟨fun ⟨b, st', e', q⟩ => by rw [e] at e'; cases e'; exact q, fun q => ⟨_, _, e, q⟩⟩
theorem wp_drawsG {n : Int} (h : r[i]? = some (.dat (.raw (.ref s.dk)))) : Wp (drawsG i (.int n)) ⟨s, r⟩ PU ↔ PU () ⟨{ s with draws := n }, r⟩ := by
  have e : drawsG i (.int n) ⟨s, r⟩ = some ((), ⟨{ s with draws := n }, r⟩) := by unfold drawsG; rw [if_pos (deckG_at h)]; rfl
  exact ⟨fun ⟨b, st', e', q⟩ => by rw [e] at e'; cases e'; exact q, fun q => ⟨_, _, e, q⟩⟩
theorem wp_cells (h : r[i]? = some (.dat (.raw (.ref s.dk)))) : Wp (cellsT i) ⟨s, r⟩ PB ↔ PB (!s.cells.isEmpty) ⟨s, r⟩ := by
  have e : cellsT i ⟨s, r⟩ = some (!s.cells.isEmpty, ⟨s, r⟩) := by unfold cellsT; rw [if_pos (deckG_at h)]
  exact ⟨fun ⟨b, st', e', q⟩ => by rw [e] at e'; cases e'; exact q, fun q => ⟨_, _, e, q⟩⟩
theorem wp_cellsPop {l : List Int} {c : Int} (h : r[i]? = some (.dat (.raw (.ref s.dk)))) (hc : s.cells = l ++ [c]) : Wp (cellsPopM i) ⟨s, r⟩ P ↔ P (.int c) ⟨{ s with cells := l }, r⟩ := by
  have e : cellsPopM i ⟨s, r⟩ = some (.int c, ⟨{ s with cells := l }, r⟩) := by
    unfold cellsPopM; rw [if_pos (deckG_at h)]
    show (s.cells[s.cells.length - 1]?).map _ = _
    rw [hc]
    simp
  exact ⟨fun ⟨b, st', e', q⟩ => by rw [e] at e'; cases e'; exact q, fun q => ⟨_, _, e, q⟩⟩
end
/-- the run of a def -/
theorem run_of {n np : Nat} {body : M Fl} {ds : List D} {s : S} {Q : D → S → Prop} (hl : ds.length = np) (h : Wp body ⟨s, ds.map .dat ++ List.replicate (n - np) .un⟩ fun fl st' => match fl with | .rt d => Q d st'.s | .nx => Q .non st'.s | _ => False) :
    ∃ d s', runF n np body ds s = some (d, s') ∧ Q d s' := by
  obtain ⟨fl, st', e, q⟩ := h
  unfold runF
  rw [if_pos hl, e]
  cases fl with
  | rt d => exact ⟨d, st'.s, rfl, q⟩
  | nx => exact ⟨.non, st'.s, rfl, q⟩
  | bk => exact q.elim
  | ct => exact q.elim
end GA

set_option Elab.async false
set_option linter.all false
set_option maxRecDepth 100000
set_option maxHeartbeats 2000000
/-! loops, comprehensions, all: what they come to -/
namespace GA
open PySem PySem.Spec PyProof.Rows L2 GenW

section
variable {st : Sta} {k : D → M Unit} {body : M Fl} {tm : D → M (List D)} {tt : M Bool} {te : M D} {vs : List Nat} {Q : List D → Sta → Prop} {QF : Fl → Sta → Prop} {QB : Bool → Sta → Prop} {QD : D → Sta → Prop} {m it : M (List D)}
theorem wp_catL {ds : List D} (I : Nat → List D → Sta → Prop) (h0 : I 0 [] st) (step : ∀ i d acc s1, ds[i]? = some d → I i acc s1 → Wp (tm d) s1 fun o s2 => I (i + 1) (acc ++ o) s2) (fin : ∀ out s, I ds.length out s → Q out s) : Wp (catL tm ds) st Q := by
  have : ∀ (n : Nat) (acc : List D) (s : Sta), n ≤ ds.length → I n acc s → Wp (catL tm (ds.drop n)) s fun out s2 => Q (acc ++ out) s2 := by
    intro n
    induction h : ds.length - n generalizing n with
    | zero =>
      intro acc s hn hi
      have e : n = ds.length := by omega
      subst e
      rw [List.drop_length]
      exact wp_pure.mpr (by rw [List.append_nil]; exact fin _ _ hi)
    | succ j ih =>
      intro acc s hn hi
      have hlt : n < ds.length := by omega
      rw [List.drop_eq_getElem_cons hlt]
      refine wp_bind.mpr ((step n ds[n] acc s (List.getElem?_eq_getElem hlt) hi).mono fun o s2 hi2 => ?_)
      refine wp_bind.mpr ((ih (n + 1) (by omega) (acc ++ o) s2 hlt hi2).mono fun ys s3 hq => ?_)
      exact wp_pure.mpr (by rw [← List.append_assoc]; exact hq)
  have := this 0 [] st (Nat.zero_le _) h0
  simpa using this
theorem wp_wipe {α : Type} {mm : M α} {P : α → Sta → Prop} : Wp (wipeM vs mm) st P ↔ Wp mm st fun a s2 => P a { s2 with r := wipeR s2.r vs } := by
  unfold wipeM
  rw [wp_bind]
  exact ⟨fun h => h.mono fun a s2 ⟨b, s3, e, p⟩ => by cases e; exact p, fun h => h.mono fun a s2 p => ⟨_, _, rfl, p⟩⟩
theorem wp_blk (h : Wp m { st with r := wipeR st.r vs } fun ys s2 => ys.length ≤ sizeLine ∧ Q ys { s2 with r := backR s2.r st.r vs }) : Wp (inBlk vs m) st Q := by
  obtain ⟨ys, s2, e, hl, q⟩ := h
  refine ⟨ys, _, ?_, q⟩
  unfold inBlk
  rw [e]
  simp only
  rw [if_pos hl]
theorem wp_one {d : D} : Wp (oneT k tt te vs d) st Q ↔ Wp (k d) st fun _ s1 => Wp tt s1 fun b s2 => if b = true then Wp te s2 fun y s3 => Q [y] { s3 with r := wipeR s3.r vs } else Q [] { s2 with r := wipeR s2.r vs } := by
  unfold oneT
  rw [wp_wipe, wp_bind]
  constructor
  · exact fun h => h.mono fun _ s1 h => (wp_bind.mp h).mono fun b s2 h => by
      cases b with
      | true => exact (wp_bind.mp h).mono fun y s3 h => (wp_pure (P := fun a s2 => Q a { s2 with r := wipeR s2.r vs })).mp h
      | false => exact (wp_pure (P := fun a s2 => Q a { s2 with r := wipeR s2.r vs })).mp h
  · exact fun h => h.mono fun _ s1 h => wp_bind.mpr (h.mono fun b s2 h => by
      cases b with
      | true => exact wp_bind.mpr (h.mono fun y s3 h => wp_pure.mpr h)
      | false => exact (wp_pure (P := fun a s2 => Q a { s2 with r := wipeR s2.r vs })).mpr h)
theorem wp_loop {ds : List D} (I : Nat → Sta → Prop) (h0 : I 0 st) (step : ∀ i d s1, ds[i]? = some d → I i s1 → Wp (k d) s1 fun _ s2 => Wp body s2 fun fl s3 => match fl with | .nx => I (i + 1) s3 | .ct => I (i + 1) s3 | .bk => QF .nx s3 | .rt d => QF (.rt d) s3)
    (fin : ∀ s, I ds.length s → QF .nx s) : Wp (loopM k body ds) st QF := by
  have : ∀ (n : Nat) (s : Sta), n ≤ ds.length → I n s → Wp (loopM k body (ds.drop n)) s QF := by
    intro n
    induction h : ds.length - n generalizing n with
    | zero =>
      intro s hn hi
      have e : n = ds.length := by omega
      subst e
      rw [List.drop_length]
      exact wp_pure.mpr (fin _ hi)
    | succ j ih =>
      intro s hn hi
      have hlt : n < ds.length := by omega
      rw [List.drop_eq_getElem_cons hlt]
      refine wp_bind.mpr ((step n ds[n] s (List.getElem?_eq_getElem hlt) hi).mono fun _ s2 h2 => wp_bind.mpr (h2.mono fun fl s3 h3 => ?_))
      cases fl with
      | nx => exact ih (n + 1) (by omega) s3 hlt h3
      | ct => exact ih (n + 1) (by omega) s3 hlt h3
      | bk => exact wp_pure.mpr h3
      | rt d => exact wp_pure.mpr h3
  exact this 0 st (Nat.zero_le _) h0
theorem wp_for {ds : List D} (h : Wp it st fun ds s1 => Wp (loopM k body ds) s1 QF) : Wp (forM it k body) st QF := wp_bind.mpr h
theorem wp_comp (h : Wp it st fun ds s1 => Wp (catL (oneT k tt te vs) ds) { s1 with r := wipeR s1.r vs } fun ys s2 => ys.length ≤ sizeLine ∧ Q ys { s2 with r := backR s2.r s1.r vs }) : Wp (compM it k tt te vs) st Q :=
  wp_bind.mpr (h.mono fun ds s1 h => wp_blk h)
/-- all(..) where every element is True, any(..) where every element is False -/
theorem wp_allL {dd : Bool} {ds : List D} (I : Nat → Sta → Prop) (h0 : I 0 st) (step : ∀ i d s1, ds[i]? = some d → I i s1 → Wp (k d) s1 fun _ s2 => Wp tt s2 fun b s3 => if b = true then Wp te s3 fun y s4 => y = .bl dd ∧ I (i + 1) { s4 with r := wipeR s4.r vs } else I (i + 1) { s3 with r := wipeR s3.r vs })
    (fin : ∀ s, I ds.length s → QB dd s) : Wp (allL dd k tt te vs ds) st QB := by
  have : ∀ (n : Nat) (s : Sta), n ≤ ds.length → I n s → Wp (allL dd k tt te vs (ds.drop n)) s QB := by
    intro n
    induction h : ds.length - n generalizing n with
    | zero =>
      intro s hn hi
      have e : n = ds.length := by omega
      subst e
      rw [List.drop_length]
      exact wp_pure.mpr (fin _ hi)
    | succ j ih =>
      intro s hn hi
      have hlt : n < ds.length := by omega
      rw [List.drop_eq_getElem_cons hlt]
      refine wp_bind.mpr (wp_wipe.mpr (wp_bind.mpr ((step n ds[n] s (List.getElem?_eq_getElem hlt) hi).mono fun _ s2 h2 => wp_bind.mpr (h2.mono fun b s3 h3 => ?_))))
      cases b with
      | true => exact wp_bind.mpr (h3.mono fun y s4 ⟨e, h4⟩ => by subst e; exact wp_lift_some.mpr (by rw [if_pos rfl]; exact ih (n + 1) (by omega) _ hlt h4))
      | false => exact wp_pure.mpr (by rw [if_pos rfl]; exact ih (n + 1) (by omega) _ hlt h3)
  exact this 0 st (Nat.zero_le _) h0
theorem wp_allM {dd : Bool} (h : Wp it st fun ds s1 => Wp (allL dd k tt te vs ds) { s1 with r := wipeR s1.r vs } fun b s2 => QD (.bl b) { s2 with r := backR s2.r s1.r vs }) : Wp (allM dd it k tt te vs) st QD := by
  refine wp_bind.mpr (h.mono fun ds s1 ⟨b, s2, e, q⟩ => ⟨.bl b, _, ?_, q⟩)
  simp only
  rw [e]
theorem wp_seqI {ma : M D} : Wp (seqI ma) st Q ↔ Wp ma st fun d s1 => ∃ ds, asSeq d = some ds ∧ Q ds s1 := by
  unfold seqI
  rw [wp_bind]
  exact ⟨fun h => h.mono fun x s1 h => wp_lift.mp h, fun h => h.mono fun x s1 h => wp_lift.mpr h⟩
theorem wp_itM {f : List D → Option (List D)} : Wp (itM f m) st Q ↔ Wp m st fun l s1 => ∃ ds, f l = some ds ∧ Q ds s1 := by
  unfold itM
  rw [wp_bind]
  exact ⟨fun h => h.mono fun x s1 h => wp_lift.mp h, fun h => h.mono fun x s1 h => wp_lift.mpr h⟩
theorem wp_ofL : Wp (ofLM m) st QD ↔ Wp m st fun ds s1 => QD (.lst ds) s1 := by
  unfold ofLM
  rw [wp_bind]
  exact ⟨fun h => h.mono fun x s1 h => wp_pure.mp h, fun h => h.mono fun x s1 h => wp_pure.mpr h⟩
theorem wp_callL {g : List D → Option (List D)} : Wp (callL g m) st Q ↔ Wp m st fun l s1 => ∃ ds, g l = some ds ∧ Q ds s1 := by
  unfold callL
  rw [wp_bind]
  exact ⟨fun h => h.mono fun x s1 h => wp_lift.mp h, fun h => h.mono fun x s1 h => wp_lift.mpr h⟩
theorem wp_fit : Wp (fitM m) st Q ↔ Wp m st fun ds s1 => ds.length ≤ sizeLine ∧ Q ds s1 := by
  unfold fitM
  rw [wp_bind]
  constructor
  · exact fun h => h.mono fun ds s1 h => by
      obtain ⟨a, e, q⟩ := wp_lift.mp h
      split at e
      · cases e; exact ⟨by assumption, q⟩
      · cases e
  · exact fun h => h.mono fun ds s1 ⟨hl, q⟩ => wp_lift.mpr ⟨ds, by rw [if_pos hl], q⟩
theorem wp_tup : Wp (tupM m) st QD ↔ Wp m st fun ds s1 => ds.length ≤ sizeLine ∧ QD (.tup false ds) s1 := by
  unfold tupM
  rw [wp_bind, wp_fit]
  exact ⟨fun h => h.mono fun ds s1 ⟨hl, q⟩ => ⟨hl, wp_pure.mp q⟩, fun h => h.mono fun ds s1 ⟨hl, q⟩ => ⟨hl, wp_pure.mpr q⟩⟩
theorem wp_own {i : Nat} : Wp (ownM i m) st QF ↔ Wp m st fun ds s1 => QF .nx { s1 with r := s1.r.set i (.own ds) } := by
  unfold ownM
  rw [wp_bind]
  exact ⟨fun h => h.mono fun x s1 ⟨a, s2, e, p⟩ => by cases e; exact p, fun h => h.mono fun x s1 p => ⟨_, _, rfl, p⟩⟩
theorem wp_and {a b : M D} : Wp (andM a b) st QD ↔ Wp a st fun x s1 => ∃ c, asB x = some c ∧ if c = true then Wp b s1 QD else QD (.bl false) s1 := by
  unfold andM
  rw [wp_bind]
  constructor
  · exact fun h => h.mono fun x s1 h => by
      obtain ⟨c, e, h⟩ := wp_lift.mp (wp_bind.mp h)
      refine ⟨c, e, ?_⟩
      cases c with
      | true => exact h
      | false => exact wp_pure.mp h
  · exact fun h => h.mono fun x s1 ⟨c, e, h⟩ => wp_bind.mpr (wp_lift.mpr ⟨c, e, by
      cases c with
      | true => exact h
      | false => exact wp_pure.mpr h⟩)
theorem wp_not {a : M D} : Wp (notM a) st QD ↔ Wp a st fun x s1 => ∃ c, asB x = some c ∧ QD (.bl (!c)) s1 := by
  unfold notM
  rw [wp_bind]
  exact ⟨fun h => h.mono fun x s1 h => by obtain ⟨c, e, h⟩ := wp_lift.mp (wp_bind.mp h); exact ⟨c, e, wp_pure.mp h⟩, fun h => h.mono fun x s1 ⟨c, e, h⟩ => wp_bind.mpr (wp_lift.mpr ⟨c, e, wp_pure.mpr h⟩)⟩
end
end GA

set_option Elab.async false
set_option linter.all false
set_option maxRecDepth 100000
set_option maxHeartbeats 2000000
/-! for simp -/
namespace GA
open PySem PySem.Spec PyProof.Rows L2 GenW
def varP (P : D → Sta → Prop) (s : S) (r : List Slot) (i : Nat) : Option Slot → Prop
  | some (.dat d) => P d ⟨s, r⟩
  | some (.own xs) => P (.lst xs) ⟨s, r.set i (.dat (.lst xs))⟩
  | _ => False
theorem wp_varI {s : S} {r : List Slot} {i : Nat} {P : D → Sta → Prop} : Wp (varM i) ⟨s, r⟩ P ↔ varP P s r i r[i]? := by
  cases h : r[i]? with
  | none =>
    constructor
    · rintro ⟨d, st', e, q⟩
      unfold varM at e
      simp only [h] at e
      cases e
    · exact fun z => z.elim
  | some x =>
    cases x with
    | dat d => exact wp_var h
    | own xs => exact wp_varO h
    | un =>
      constructor
      · rintro ⟨d, st', e, q⟩
        unfold varM at e
        simp only [h] at e
        cases e
      · exact fun z => z.elim
    | ownd xs =>
      constructor
      · rintro ⟨d, st', e, q⟩
        unfold varM at e
        simp only [h] at e
        cases e
      · exact fun z => z.elim
theorem run_is {n np : Nat} {body : M Fl} {ds : List D} {s s' : S} {d : D} (hl : ds.length = np) (h : Wp body ⟨s, ds.map .dat ++ List.replicate (n - np) .un⟩ fun fl st' => match fl with | .rt x => x = d ∧ st'.s = s' | .nx => D.non = d ∧ st'.s = s' | _ => False) :
    runF n np body ds s = some (d, s') := by
  obtain ⟨d', s1, e, h1, h2⟩ := run_of (Q := fun x t => x = d ∧ t = s') hl (h.mono fun fl st' q => by cases fl <;> exact q)
  rw [e, h1, h2]
theorem ex_some {α : Type} {a : α} {P : α → Prop} : (∃ b, some a = some b ∧ P b) ↔ P a := ⟨fun ⟨b, e, p⟩ => by cases e; exact p, fun p => ⟨a, rfl, p⟩⟩
theorem ex_some2 {α β : Type} {a : α} {b : β} {P : α → β → Prop} : (∃ x y, some (a, b) = some (x, y) ∧ P x y) ↔ P a b := ⟨fun ⟨x, y, e, p⟩ => by cases e; exact p, fun p => ⟨a, b, rfl, p⟩⟩
theorem asB_bl {b : Bool} : asB (.bl b) = some b := rfl
theorem addD_ii {i j : Int} : addD (.int i) (.int j) = some (.int (i + j)) := rfl
theorem subD_ii {i j : Int} : subD (.int i) (.int j) = some (.int (i - j)) := rfl
theorem ltD_ii {i j : Int} : ltD (.int i) (.int j) = some (.bl (decide (i < j))) := rfl
theorem leD_ii {i j : Int} : leD (.int i) (.int j) = some (.bl (decide (i ≤ j))) := rfl
theorem gtD_ii {i j : Int} : gtD (.int i) (.int j) = some (.bl (decide (j < i))) := rfl
theorem geD_ii {i j : Int} : geD (.int i) (.int j) = some (.bl (decide (j ≤ i))) := rfl
theorem eqD_ii {i j : Int} : eqD (.int i) (.int j) = some (.bl (i == j)) := rfl
theorem neD_ii {i j : Int} : neD (.int i) (.int j) = some (.bl (!(i == j))) := rfl
theorem lenD_l {ds : List D} : lenD [.lst ds] = some (.int ds.length) := rfl
theorem lenD_t {b : Bool} {ds : List D} : lenD [.tup b ds] = some (.int ds.length) := rfl
theorem isi_ii {i : Int} : isiD [.int i, .raw (.ty "int")] = some (.bl true) := by
  show (kitB "int" "int").map D.bl = _
  rw [show kitB "int" "int" = some true from by decide +kernel]; rfl
theorem isi_ib {i : Int} : isiD [.int i, .raw (.ty "bool")] = some (.bl false) := by
  show (kitB "int" "bool").map D.bl = _
  rw [show kitB "int" "bool" = some false from by decide +kernel]; rfl
theorem isi_tt {b : Bool} {ds : List D} : isiD [.tup b ds, .raw (.ty "tuple")] = some (.bl true) := by
  show (kitB "tuple" "tuple").map D.bl = _
  rw [show kitB "tuple" "tuple" = some true from by decide +kernel]; rfl
def chainP (f g : D → D → Option D) (cc : M D) (P : D → Sta → Prop) (x y : D) (s2 : Sta) : Prop := ∃ z, f x y = some z ∧ ∃ k, asB z = some k ∧ if k = true then Wp cc s2 fun w s3 => ∃ d, g y w = some d ∧ P d s3 else P (.bl false) s2
theorem wp_chain {f g : D → D → Option D} {a b cc : M D} {st : Sta} {P : D → Sta → Prop} : Wp (chainM f g a b cc) st P ↔ Wp a st fun x s1 => Wp b s1 fun y s2 => chainP f g cc P x y s2 := by
  unfold chainM chainP
  rw [wp_bind]
  constructor
  · exact fun h => h.mono fun x s1 h => (wp_bind.mp h).mono fun y s2 h => by
      obtain ⟨z, e, h⟩ := wp_lift.mp (wp_bind.mp h)
      obtain ⟨k, e2, h⟩ := wp_lift.mp (wp_bind.mp h)
      refine ⟨z, e, k, e2, ?_⟩
      cases k with
      | true => exact (wp_bind.mp h).mono fun w s3 h => wp_lift.mp h
      | false => exact wp_pure.mp h
  · exact fun h => h.mono fun x s1 h => wp_bind.mpr (h.mono fun y s2 ⟨z, e, k, e2, h⟩ => wp_bind.mpr (wp_lift.mpr ⟨z, e, wp_bind.mpr (wp_lift.mpr ⟨k, e2, by
      cases k with
      | true => exact wp_bind.mpr (h.mono fun w s3 h => wp_lift.mpr h)
      | false => exact wp_pure.mpr h⟩)⟩))
end GA

set_option Elab.async false
set_option linter.all false
set_option maxRecDepth 100000
set_option maxHeartbeats 2000000
/-! comprehensions that change nothing else -/
namespace GA
open PySem PySem.Spec PyProof.Rows L2 GenW
theorem back_un {r : List Slot} {v : Nat} (h : r[v]? = some .un) : (r.set v .un) = r := by
  apply List.ext_getElem?
  intro j
  by_cases q : v = j
  · subst q
    rw [List.getElem?_set_self (List.getElem?_eq_some_iff.mp h).1, h]
  · rw [List.getElem?_set_ne q]
section
variable {it : M (List D)} {te : M D} {tt : M Bool} {v : Nat} {s : S} {r : List Slot} {ds : List D} {f : D → D} {p : D → Bool} {Q : List D → Sta → Prop}
theorem comp_filter (hv : r[v]? = some .un) (hit : Wp it ⟨s, r⟩ fun l s1 => l = ds ∧ s1 = ⟨s, r⟩) (hl : ds.length ≤ sizeLine) (htt : ∀ d ∈ ds, Wp tt ⟨s, r.set v (.dat d)⟩ fun b s3 => b = p d ∧ s3 = ⟨s, r.set v (.dat d)⟩)
    (hte : ∀ d ∈ ds, p d = true → Wp te ⟨s, r.set v (.dat d)⟩ fun y s3 => y = f d ∧ s3 = ⟨s, r.set v (.dat d)⟩) (q : Q ((ds.filter p).map f) ⟨s, r⟩) : Wp (compM it (tgN v) tt te [v]) ⟨s, r⟩ Q := by
  refine wp_comp (hit.mono fun l s1 ⟨e1, e2⟩ => ?_)
  subst e1 e2
  have hw : wipeR r [v] = r := back_un hv
  show Wp _ ⟨s, wipeR r [v]⟩ _
  rw [hw]
  refine wp_catL (fun i acc s1 => s1 = ⟨s, r⟩ ∧ acc = ((l.take i).filter p).map f) ⟨rfl, rfl⟩ (fun i d acc s1 hd ⟨e1, e2⟩ => ?_) (fun out s1 ⟨e1, e2⟩ => ?_)
  · subst e1 e2
    have hmem : d ∈ l := List.mem_of_getElem? hd
    have ht : (l.take (i + 1)) = l.take i ++ [d] := by rw [List.take_add_one, hd]; rfl
    refine wp_one.mpr (wp_tgN.mpr ((htt d hmem).mono fun b s3 ⟨e3, e4⟩ => ?_))
    subst e3 e4
    have back : wipeR (r.set v (.dat d)) [v] = r := by
      show (r.set v (.dat d)).set v .un = r
      rw [List.set_set]; exact back_un hv
    by_cases hp : p d = true
    · rw [if_pos hp]
      refine (hte d hmem hp).mono fun y s4 ⟨e5, e6⟩ => ?_
      subst e5 e6
      refine ⟨by show Sta.mk s (wipeR (r.set v (.dat d)) [v]) = _; rw [back], ?_⟩
      rw [ht, List.filter_append, List.map_append, List.filter_cons_of_pos hp]
      rfl
    · rw [if_neg hp]
      refine ⟨by show Sta.mk s (wipeR (r.set v (.dat d)) [v]) = _; rw [back], ?_⟩
      rw [ht, List.filter_append, List.map_append, List.filter_cons_of_neg hp]
      rfl
  · subst e1
    rw [List.take_length] at e2
    subst e2
    refine ⟨Nat.le_trans ?_ hl, ?_⟩
    · rw [List.length_map]; exact List.length_filter_le _ _
    · have : backR r r [v] = r := by
        show r.set v (slotKeep r[v]?) = r
        rw [hv]; exact back_un hv
      show Q _ ⟨s, backR r r [v]⟩
      rw [this]; exact q
theorem comp_map (hv : r[v]? = some .un) (hit : Wp it ⟨s, r⟩ fun l s1 => l = ds ∧ s1 = ⟨s, r⟩) (hl : ds.length ≤ sizeLine)
    (hte : ∀ d ∈ ds, Wp te ⟨s, r.set v (.dat d)⟩ fun y s3 => y = f d ∧ s3 = ⟨s, r.set v (.dat d)⟩) (q : Q (ds.map f) ⟨s, r⟩) : Wp (compM it (tgN v) (pureM true) te [v]) ⟨s, r⟩ Q :=
  comp_filter (p := fun _ => true) hv hit hl (fun d hd => wp_pure.mpr ⟨rfl, rfl⟩) (fun d hd _ => hte d hd) (by rw [List.filter_eq_self.mpr fun _ _ => rfl]; exact q)
end
end GA

set_option Elab.async false
set_option linter.all false
set_option maxRecDepth 100000
set_option maxHeartbeats 2000000
/-! what changes nothing: Ev m st a -/
namespace GA
open PySem PySem.Spec PyProof.Rows L2 GenW
def Ev {α : Type} (m : M α) (st : Sta) (a : α) : Prop := m st = some (a, st)
section
variable {α β : Type} {m : M α} {k : α → M β} {st : Sta} {Q : β → Sta → Prop} {P : α → Sta → Prop} {x : α} {y : β}
theorem Ev.wp (h : Ev m st x) (q : P x st) : Wp m st P := ⟨x, st, h, q⟩
theorem Ev.to (h : Ev m st x) : Wp m st fun d s1 => d = x ∧ s1 = st := ⟨x, st, h, rfl, rfl⟩
theorem Ev.of (h : Wp m st fun d s1 => d = x ∧ s1 = st) : Ev m st x := by
  obtain ⟨a, s1, e, rfl, rfl⟩ := h
  exact e
theorem ev_bind (h : Ev m st x) (h2 : Ev (k x) st y) : Ev (bindM m k) st y := by
  unfold Ev bindM at *
  rw [h]; exact h2
theorem ev_pure : Ev (pureM x) st x := rfl
theorem ev_lift {o : Option α} (h : o = some x) : Ev (liftM o) st x := liftM_pair h
end
section
variable {st : Sta} {s : S} {r r' : List Slot} {i : Nat} {d x y z : D} {a b cc : M D} {f g : D → D → Option D} {ml mx : M (List D)} {ds es : List D} {fl : List D → Option D} {gl : List D → Option (List D)} {t t2 : M Bool} {c c2 : Bool} {is vs vs1 : List Nat} {n : Nat} {ff : List D → S → Option (D × S)} {u v : M Fl} {QF : Fl → Sta → Prop}
theorem ev_var (h : r[i]? = some (.dat d)) : Ev (varM i) ⟨s, r⟩ d := by
  unfold Ev varM
  rw [show (Sta.mk s r).r[i]? = _ from h]
theorem ev_op2 (h1 : Ev a st x) (h2 : Ev b st y) (h : f x y = some z) : Ev (op2M f a b) st z := ev_bind h1 (ev_bind h2 (ev_lift h))
theorem ev_callD (h1 : Ev ml st ds) (h : fl ds = some d) : Ev (callD fl ml) st d := ev_bind h1 (ev_lift h)
theorem ev_callL (h1 : Ev ml st ds) (h : gl ds = some es) : Ev (callL gl ml) st es := ev_bind h1 (ev_lift h)
theorem ev_it (h1 : Ev ml st ds) (h : gl ds = some es) : Ev (itM gl ml) st es := ev_bind h1 (ev_lift h)
theorem ev_seq (h1 : Ev a st x) (h : asSeq x = some es) : Ev (seqI a) st es := ev_bind h1 (ev_lift h)
theorem ev_nil : Ev (pureM ([] : List D)) st [] := rfl
theorem ev_cons (h1 : Ev a st x) (h2 : Ev ml st ds) : Ev (consM a ml) st (x :: ds) := ev_bind h1 (ev_bind h2 ev_pure)
theorem ev_call (h1 : Ev ml st ds) (h : ff ds st.s = some (d, st.s)) (hl : ds.length = n) : Ev (callM n ff ml) st d := by
  unfold Ev callM bindM at *
  rw [h1]
  show (if ds.length = n then _ else none) = _
  rw [if_pos hl, h]
theorem ev_pick (h1 : Ev ml st ds) (h : pickL is ds = es) : Ev (pickM is ml) st es := h ▸ ev_bind h1 ev_pure
theorem ev_fit (h1 : Ev ml st ds) (hl : ds.length ≤ sizeLine) : Ev (fitM ml) st ds := ev_bind h1 (ev_lift (if_pos hl))
theorem ev_tup (h1 : Ev ml st ds) (hl : ds.length ≤ sizeLine) : Ev (tupM ml) st (.tup false ds) := ev_bind (ev_fit h1 hl) ev_pure
theorem ev_test (h1 : Ev a st (.bl c)) : Ev (testM a) st c := ev_bind h1 (ev_lift rfl)
theorem ev_tNot (h1 : Ev t st c) : Ev (tNotM t) st (!c) := ev_bind h1 ev_pure
theorem ev_tAnd (h1 : Ev t st c) (h2 : c = true → Ev t2 st c2) : Ev (tAndM t t2) st (c && c2) := by
  cases c with
  | true => exact ev_bind h1 (h2 rfl)
  | false => exact ev_bind h1 ev_pure
theorem ev_tOr (h1 : Ev t st c) (h2 : c = false → Ev t2 st c2) : Ev (tOrM t t2) st (c || c2) := by
  cases c with
  | true => exact ev_bind h1 ev_pure
  | false => exact ev_bind h1 (h2 rfl)
theorem ev_and (h1 : Ev a st (.bl c)) (h2 : c = true → Ev b st (.bl c2)) : Ev (andM a b) st (.bl (c && c2)) := by
  cases c with
  | true => exact ev_bind h1 (h2 rfl)
  | false => exact ev_bind h1 ev_pure
theorem ev_or (h1 : Ev a st (.bl c)) (h2 : c = false → Ev b st (.bl c2)) : Ev (orM a b) st (.bl (c || c2)) := by
  cases c with
  | true => exact ev_bind h1 ev_pure
  | false => exact ev_bind h1 (h2 rfl)
theorem ev_not (h1 : Ev a st (.bl c)) : Ev (notM a) st (.bl (!c)) := ev_bind h1 ev_pure
theorem ev_ifM (h1 : Ev t st c) (h2 : c = true → Ev a st x) (h3 : c = false → Ev b st y) : Ev (ifM t a b) st (if c then x else y) := by
  cases c with
  | true => exact ev_bind h1 (h2 rfl)
  | false => exact ev_bind h1 (h3 rfl)
theorem ev_neg {i : Int} (h1 : Ev a st (.int i)) : Ev (negM a) st (.int (-i)) := ev_bind h1 (ev_lift rfl)
theorem ev_ofL (h1 : Ev ml st ds) : Ev (ofLM ml) st (.lst ds) := ev_bind h1 ev_pure
theorem ev_turn (h1 : Ev a st x) (h : turnD x = some y) : Ev (turnDM a) st y := ev_bind h1 (ev_lift h)
theorem ev_tupRg (h1 : Ev a st x) (h : rgD x = some ds) : Ev (tupRgM a) st (.tup false ds) := ev_bind h1 (ev_lift (by rw [h]; rfl))
theorem ev_listRg (h1 : Ev a st x) (h : rgD x = some ds) : Ev (listRgM a) st ds := ev_bind h1 (ev_lift h)
theorem ev_count (h1 : Ev a st x) (h2 : Ev ml st ds) (h : cntD x ds = some y) : Ev (countM a ml) st y := ev_bind h1 (ev_bind h2 (ev_lift h))
theorem ev_repL (h1 : Ev a st x) (h2 : Ev b st y) (h : repL x y = some ds) : Ev (repLM a b) st ds := ev_bind h1 (ev_bind h2 (ev_lift h))
theorem ev_part {i : Int} (h1 : Ev a st (.int i)) : Ev (partM a) st (some i) := ev_bind h1 (ev_lift rfl)
theorem ev_sl {lo hi : M (Option Int)} {l h : Option Int} (h1 : Ev a st x) (h2 : Ev lo st l) (h3 : Ev hi st h) (e : slD x l h = some y) : Ev (slM a lo hi) st y := ev_bind h1 (ev_bind h2 (ev_bind h3 (ev_lift e)))
theorem ev_chain {c1 c2 : Bool} (h1 : Ev a st x) (h2 : Ev b st y) (h3 : f x y = some (.bl c1)) (h4 : Ev cc st z) (h5 : g y z = some (.bl c2)) : Ev (chainM f g a b cc) st (.bl (c1 && c2)) := by
  refine ev_bind h1 (ev_bind h2 (ev_bind (ev_lift h3) (ev_bind (ev_lift rfl) ?_)))
  cases c1 with
  | true => exact ev_bind h4 (ev_lift h5)
  | false => exact ev_pure
/-! statements -/
theorem wpe_asg {k : D → M Unit} (h : Ev a st x) (q : Wp (k x) st fun _ s2 => Wp v s2 QF) : Wp (seqM (asgM a k) v) st QF := wp_seq.mpr (wp_asg.mpr (h.wp q))
theorem wpe_set (h : Ev a ⟨s, r⟩ x) (q : Wp v ⟨s, r.set i (.dat x)⟩ QF) : Wp (seqM (asgM a (tgN i)) v) ⟨s, r⟩ QF := wpe_asg h (wp_tgN.mpr q)
theorem wpe_drop (h : Ev a st x) (q : Wp v st QF) : Wp (seqM (dropM a) v) st QF := wp_seq.mpr (wp_drop.mpr (h.wp q))
theorem wpe_own (h : Ev ml ⟨s, r⟩ ds) (q : Wp v ⟨s, r.set i (.own ds)⟩ QF) : Wp (seqM (ownM i ml) v) ⟨s, r⟩ QF := by
  refine wp_seq.mpr ⟨.nx, ⟨s, r.set i (.own ds)⟩, ?_, q⟩
  unfold ownM bindM
  rw [show ml ⟨s, r⟩ = _ from h]
theorem wps_frz {α : Type} {m : M α} {P : α → Sta → Prop} (h0 : r[i]? = some (.own ds)) (q : Wp m ⟨s, r.set i (.dat (.lst ds))⟩ P) : Wp (frzM i m) ⟨s, r⟩ P := by
  obtain ⟨a, st', e, p⟩ := q
  refine ⟨a, st', ?_, p⟩
  unfold frzM
  rw [show (Sta.mk s r).r[i]? = _ from h0]
  exact e
theorem wpe_ownF (h : Ev ml ⟨s, r⟩ ds) (hi : i < r.length) (q : Wp v ⟨s, r.set i (.dat (.lst ds))⟩ QF) : Wp (seqM (ownM i ml) (frzM i v)) ⟨s, r⟩ QF := by
  refine wpe_own h (wps_frz (ds := ds) (List.getElem?_set_self hi) ?_)
  rw [List.set_set]
  exact q
theorem wpe_ret (h : Ev a st x) (q : QF (.rt x) st) : Wp (seqM (retM a) v) st QF := wp_seq.mpr (wp_ret.mpr (h.wp q))
theorem wpe_if (h : Ev t st c) (q : if c = true then Wp (seqM u (pureM .nx)) st (fun fl s1 => match fl with | .nx => Wp v s1 QF | .rt d => QF (.rt d) s1 | .bk => QF .bk s1 | .ct => QF .ct s1) else Wp v st QF) : Wp (seqM (ifS t (seqM u (pureM .nx)) (pureM .nx)) v) st QF := by
  refine wp_seq.mpr (wp_ifS.mpr (h.wp ?_))
  cases c with
  | true => exact q
  | false => exact wp_pure.mpr q
theorem wpe_pass (h : Ev t st false) (q : Wp v st QF) : Wp (seqM (ifS t u (pureM .nx)) v) st QF := wp_seq.mpr (wp_ifS.mpr (h.wp (wp_pure.mpr q)))
/-- a def that changes nothing -/
theorem run_ev {np : Nat} {body : M Fl} (hl : ds.length = np) (h : Wp body ⟨s, ds.map .dat ++ List.replicate (n - np) .un⟩ fun fl st' => fl = .rt d ∧ st'.s = s) : runF n np body ds s = some (d, s) :=
  run_is hl (h.mono fun fl st' ⟨e1, e2⟩ => by subst e1; exact ⟨rfl, e2⟩)
theorem run_evN {np : Nat} {body : M Fl} (hl : ds.length = np) (h : Wp body ⟨s, ds.map .dat ++ List.replicate (n - np) .un⟩ fun fl st' => fl = .nx ∧ st'.s = s) : runF n np body ds s = some (.non, s) :=
  run_is hl (h.mono fun fl st' ⟨e1, e2⟩ => by subst e1; exact ⟨rfl, e2⟩)
/-- comprehensions -/
theorem ev_comp {it : M (List D)} {k : D → M Unit} {tt : M Bool} {te : M D} (ρ : D → List Slot) (p : D → Bool) (ft : D → D) (hit : Ev it ⟨s, r⟩ ds) (hl : ds.length ≤ sizeLine) (hw : wipeR r vs = r) (hb : backR r r vs = r)
    (hk : ∀ x ∈ ds, Wp (k x) ⟨s, r⟩ fun _ s1 => s1 = ⟨s, ρ x⟩) (hρ : ∀ x ∈ ds, wipeR (ρ x) vs = r) (ht : ∀ x ∈ ds, Ev tt ⟨s, ρ x⟩ (p x)) (he : ∀ x ∈ ds, p x = true → Ev te ⟨s, ρ x⟩ (ft x)) : Ev (compM it k tt te vs) ⟨s, r⟩ ((ds.filter p).map ft) := by
  refine Ev.of (wp_comp (hit.wp ?_))
  rw [show wipeR (Sta.mk s r).r vs = r from hw]
  refine wp_catL (fun i acc s1 => s1 = ⟨s, r⟩ ∧ acc = ((ds.take i).filter p).map ft) ⟨rfl, rfl⟩ (fun i d acc s1 hd ⟨e1, e2⟩ => ?_) (fun out s1 ⟨e1, e2⟩ => ?_)
  · subst e1 e2
    have hm : d ∈ ds := List.mem_of_getElem? hd
    have ht' : (ds.take (i + 1)) = ds.take i ++ [d] := by rw [List.take_add_one, hd]; rfl
    refine wp_one.mpr ((hk d hm).mono fun _ s2 e3 => ?_)
    subst e3
    refine (ht d hm).wp ?_
    by_cases hp : p d = true
    · rw [if_pos hp]
      refine (he d hm hp).wp ⟨by show Sta.mk s (wipeR (ρ d) vs) = _; rw [hρ d hm], ?_⟩
      rw [ht', List.filter_append, List.map_append, List.filter_cons_of_pos hp]; rfl
    · rw [if_neg hp]
      refine ⟨by show Sta.mk s (wipeR (ρ d) vs) = _; rw [hρ d hm], ?_⟩
      rw [ht', List.filter_append, List.map_append, List.filter_cons_of_neg hp]; rfl
  · subst e1
    rw [List.take_length] at e2
    subst e2
    refine ⟨Nat.le_trans ?_ hl, rfl, ?_⟩
    · rw [List.length_map]; exact List.length_filter_le _ _
    · show Sta.mk s (backR r r vs) = _; rw [hb]
theorem ev_map {it : M (List D)} {k : D → M Unit} {te : M D} (ρ : D → List Slot) (ft : D → D) (hit : Ev it ⟨s, r⟩ ds) (hl : ds.length ≤ sizeLine) (hw : wipeR r vs = r) (hb : backR r r vs = r)
    (hk : ∀ x ∈ ds, Wp (k x) ⟨s, r⟩ fun _ s1 => s1 = ⟨s, ρ x⟩) (hρ : ∀ x ∈ ds, wipeR (ρ x) vs = r) (he : ∀ x ∈ ds, Ev te ⟨s, ρ x⟩ (ft x)) : Ev (compM it k (pureM true) te vs) ⟨s, r⟩ (ds.map ft) := by
  have := ev_comp (tt := pureM true) ρ (fun _ => true) ft hit hl hw hb hk hρ (fun x _ => rfl) (fun x hx _ => he x hx)
  rwa [List.filter_eq_self.mpr fun _ _ => rfl] at this
/-- two fors -/
theorem ev_comp2 {it it1 : M (List D)} {k k1 : D → M Unit} {te : M D} (ρ : D → List Slot) (ρ1 : D → D → List Slot) (g : D → List D) (ft : D → D → D) (hit : Ev it ⟨s, r⟩ ds) (hl : (ds.flatMap fun x => (g x).map (ft x)).length ≤ sizeLine) (hw : wipeR r vs = r) (hb : backR r r vs = r)
    (hk : ∀ x ∈ ds, Wp (k x) ⟨s, r⟩ fun _ s1 => s1 = ⟨s, ρ x⟩) (hg : ∀ x ∈ ds, Ev it1 ⟨s, ρ x⟩ (g x)) (hw1 : ∀ x ∈ ds, wipeR (ρ x) vs1 = ρ x) (hρ : ∀ x ∈ ds, wipeR (ρ x) vs = r)
    (hk1 : ∀ x ∈ ds, ∀ y ∈ g x, Wp (k1 y) ⟨s, ρ x⟩ fun _ s1 => s1 = ⟨s, ρ1 x y⟩) (hρ1 : ∀ x ∈ ds, ∀ y ∈ g x, wipeR (ρ1 x y) vs1 = ρ x) (he : ∀ x ∈ ds, ∀ y ∈ g x, Ev te ⟨s, ρ1 x y⟩ (ft x y)) :
    Ev (compM2 it k (pureM true) it1 k1 (pureM true) te vs vs1) ⟨s, r⟩ (ds.flatMap fun x => (g x).map (ft x)) := by
  unfold compM2
  refine Ev.of (wp_bind.mpr (hit.wp (wp_blk ?_)))
  rw [show wipeR (Sta.mk s r).r vs = r from hw]
  refine wp_catL (fun i acc s1 => s1 = ⟨s, r⟩ ∧ acc = (ds.take i).flatMap fun x => (g x).map (ft x)) ⟨rfl, rfl⟩ (fun i d acc s1 hd ⟨e1, e2⟩ => ?_) (fun out s1 ⟨e1, e2⟩ => ?_)
  · subst e1 e2
    have hm : d ∈ ds := List.mem_of_getElem? hd
    have ht' : (ds.take (i + 1)) = ds.take i ++ [d] := by rw [List.take_add_one, hd]; rfl
    unfold twoT
    refine wp_wipe.mpr (wp_bind.mpr ((hk d hm).mono fun _ s2 e3 => ?_))
    subst e3
    refine wp_bind.mpr (wp_pure.mpr ?_)
    rw [if_pos rfl]
    refine wp_bind.mpr ((hg d hm).wp ?_)
    show Wp (catL _ _) ⟨s, wipeR (ρ d) vs1⟩ _
    rw [hw1 d hm]
    refine wp_catL (fun j acc s1 => s1 = ⟨s, ρ d⟩ ∧ acc = ((g d).take j).map (ft d)) ⟨rfl, rfl⟩ (fun j y acc s1 hy ⟨e4, e5⟩ => ?_) (fun out s1 ⟨e4, e5⟩ => ?_)
    · subst e4 e5
      have hmy : y ∈ g d := List.mem_of_getElem? hy
      refine wp_one.mpr ((hk1 d hm y hmy).mono fun _ s3 e6 => ?_)
      subst e6
      refine wp_pure.mpr ?_
      rw [if_pos rfl]
      refine (he d hm y hmy).wp ⟨by show Sta.mk s (wipeR (ρ1 d y) vs1) = _; rw [hρ1 d hm y hmy], ?_⟩
      rw [List.take_add_one, hy, List.map_append]; rfl
    · subst e4
      rw [List.take_length] at e5
      subst e5
      refine ⟨by show Sta.mk s (wipeR (ρ d) vs) = _; rw [hρ d hm], ?_⟩
      rw [ht', List.flatMap_append, List.flatMap_cons, List.flatMap_nil, List.append_nil]
  · subst e1
    rw [List.take_length] at e2
    subst e2
    exact ⟨hl, rfl, by show Sta.mk s (backR r r vs) = _; rw [hb]⟩
/-- all(..), any(..) -/
theorem allL_ev {dd : Bool} {k : D → M Unit} {te : M D} (ρ : D → List Slot) (ft : D → Bool) : ∀ {ds : List D}, (∀ x ∈ ds, Wp (k x) ⟨s, r⟩ fun _ s1 => s1 = ⟨s, ρ x⟩) → (∀ x ∈ ds, wipeR (ρ x) vs = r) → (∀ x ∈ ds, Ev te ⟨s, ρ x⟩ (.bl (ft x))) →
    Ev (allL dd k (pureM true) te vs ds) ⟨s, r⟩ (if dd then ds.all ft else ds.any ft)
  | [], _, _, _ => by cases dd <;> rfl
  | x :: ds, hk, hρ, he => by
    have ih := allL_ev (dd := dd) ρ ft (ds := ds) (fun y hy => hk y (List.mem_cons_of_mem _ hy)) (fun y hy => hρ y (List.mem_cons_of_mem _ hy)) fun y hy => he y (List.mem_cons_of_mem _ hy)
    have h1 : Ev (wipeM vs (bindM (k x) fun _ => bindM (pureM true) fun b => if b then bindM te fun y => liftM (asB y) else pureM dd)) ⟨s, r⟩ (ft x) := by
      refine Ev.of (wp_wipe.mpr (wp_bind.mpr ((hk x List.mem_cons_self).mono fun _ s2 e => ?_)))
      subst e
      refine wp_bind.mpr (wp_pure.mpr ?_)
      rw [if_pos rfl]
      refine wp_bind.mpr ((he x List.mem_cons_self).wp (wp_lift_some.mpr ⟨rfl, ?_⟩))
      show Sta.mk s (wipeR (ρ x) vs) = _
      rw [hρ x List.mem_cons_self]
    refine ev_bind h1 ?_
    show Ev (if ft x = dd then _ else _) _ _
    by_cases h : ft x = dd
    · rw [if_pos h]
      cases dd with
      | true => simpa [h] using ih
      | false => simpa [h] using ih
    · rw [if_neg h]
      cases dd with
      | true => have : ft x = false := by simpa using h
                simp [this, ev_pure]
      | false => have : ft x = true := by simpa using h
                 simp [this, ev_pure]
theorem ev_allM {dd : Bool} {it : M (List D)} {k : D → M Unit} {te : M D} (ρ : D → List Slot) (ft : D → Bool) (hit : Ev it ⟨s, r⟩ ds) (hw : wipeR r vs = r) (hb : backR r r vs = r)
    (hk : ∀ x ∈ ds, Wp (k x) ⟨s, r⟩ fun _ s1 => s1 = ⟨s, ρ x⟩) (hρ : ∀ x ∈ ds, wipeR (ρ x) vs = r) (he : ∀ x ∈ ds, Ev te ⟨s, ρ x⟩ (.bl (ft x))) : Ev (allM dd it k (pureM true) te vs) ⟨s, r⟩ (.bl (if dd then ds.all ft else ds.any ft)) := by
  unfold allM
  refine ev_bind hit ?_
  have := allL_ev (dd := dd) (vs := vs) ρ ft hk hρ he
  show (match allL dd k (pureM true) te vs ds ⟨s, wipeR r vs⟩ with | some (b, st') => _ | none => none) = _
  rw [hw]
  unfold Ev at this
  rw [this]
  simp only
  rw [hb]
theorem ev_all {it : M (List D)} {k : D → M Unit} {te : M D} (ρ : D → List Slot) (ft : D → Bool) (hit : Ev it ⟨s, r⟩ ds) (hw : wipeR r vs = r) (hb : backR r r vs = r)
    (hk : ∀ x ∈ ds, Wp (k x) ⟨s, r⟩ fun _ s1 => s1 = ⟨s, ρ x⟩) (hρ : ∀ x ∈ ds, wipeR (ρ x) vs = r) (he : ∀ x ∈ ds, Ev te ⟨s, ρ x⟩ (.bl (ft x))) : Ev (allM true it k (pureM true) te vs) ⟨s, r⟩ (.bl (ds.all ft)) := ev_allM (dd := true) ρ ft hit hw hb hk hρ he
theorem ev_any {it : M (List D)} {k : D → M Unit} {te : M D} (ρ : D → List Slot) (ft : D → Bool) (hit : Ev it ⟨s, r⟩ ds) (hw : wipeR r vs = r) (hb : backR r r vs = r)
    (hk : ∀ x ∈ ds, Wp (k x) ⟨s, r⟩ fun _ s1 => s1 = ⟨s, ρ x⟩) (hρ : ∀ x ∈ ds, wipeR (ρ x) vs = r) (he : ∀ x ∈ ds, Ev te ⟨s, ρ x⟩ (.bl (ft x))) : Ev (allM false it k (pureM true) te vs) ⟨s, r⟩ (.bl (ds.any ft)) := ev_allM (dd := false) ρ ft hit hw hb hk hρ he
/-- targets -/
theorem tg1 : Wp (tgN i x) ⟨s, r⟩ fun _ s1 => s1 = ⟨s, r.set i (.dat x)⟩ := wp_tgN.mpr rfl
theorem tg2 {j : Nat} {b : Bool} : Wp (tgT [tgN i, tgN j] (.tup b [x, y])) ⟨s, r⟩ fun _ s1 => s1 = ⟨s, (r.set i (.dat x)).set j (.dat y)⟩ := ⟨(), _, rfl, rfl⟩
theorem tg12 {j l : Nat} {b b2 : Bool} : Wp (tgT [tgN l, tgT [tgN i, tgN j]] (.tup b [z, .tup b2 [x, y]])) ⟨s, r⟩ fun _ s1 => s1 = ⟨s, ((r.set l (.dat z)).set i (.dat x)).set j (.dat y)⟩ := ⟨(), _, rfl, rfl⟩
/-- if repr(a) != repr(b): return False -/
theorem ev_repr {p : PyData} (h : Ev a st x) (hr : isRef x = true) (hp : toPy x = some p) (hs : p.showable = true ∧ p.hasDict = false ∧ p.depth ≤ 60 ∧ p.shown.length ≤ sizeLine) : Ev (callD reprD (consM a (pureM []))) st (.str p.shown) := by
  refine ev_callD (ev_cons h ev_nil) ?_
  unfold reprD
  simp only
  rw [if_pos hr, hp, Option.bind_some, if_pos hs]
theorem ev_reprNe {p : PyData} (h1 : Ev a st x) (h2 : Ev b st y) (r1 : isRef x = true) (r2 : isRef y = true) (p1 : toPy x = some p) (p2 : toPy y = some p) (hs : p.showable = true ∧ p.hasDict = false ∧ p.depth ≤ 60 ∧ p.shown.length ≤ sizeLine) :
    Ev (testM (op2M neD (callD reprD (consM a (pureM []))) (callD reprD (consM b (pureM []))))) st false := by
  refine ev_test (ev_op2 (ev_repr h1 r1 p1 hs) (ev_repr h2 r2 p2 hs) ?_)
  show some (D.bl (!decide (p.shown = p.shown))) = _
  simp
theorem ev_reprEq {p : PyData} (h1 : Ev a st x) (h2 : Ev b st y) (r1 : isRef x = true) (r2 : isRef y = true) (p1 : toPy x = some p) (p2 : toPy y = some p) (hs : p.showable = true ∧ p.hasDict = false ∧ p.depth ≤ 60 ∧ p.shown.length ≤ sizeLine) :
    Ev (op2M eqD (callD reprD (consM a (pureM []))) (callD reprD (consM b (pureM [])))) st (.bl true) := by
  refine ev_op2 (ev_repr h1 r1 p1 hs) (ev_repr h2 r2 p2 hs) ?_
  show some (D.bl (decide (p.shown = p.shown))) = _
  simp
end
end GA

set_option Elab.async false
set_option linter.all false
set_option maxRecDepth 100000
set_option maxHeartbeats 2000000
/-! what draws -/
namespace GA
open PySem PySem.Spec PyProof.Rows L2 GenW
section
variable {st : Sta} {s : S} {r r' : List Slot} {i : Nat} {d x y z : D} {a b cc : M D} {f g : D → D → Option D} {ml mx : M (List D)} {ds es xs : List D} {c : Bool} {is vs vs1 : List Nat} {n : Nat} {ff : List D → S → Option (D × S)} {u v : M Fl} {QF : Fl → Sta → Prop} {P : D → Sta → Prop} {PL : List D → Sta → Prop} {PU : Unit → Sta → Prop}
theorem wps_call (h1 : Ev ml ⟨s, r⟩ ds) (hl : ds.length = n) (h : ∃ d s', ff ds s = some (d, s') ∧ P d ⟨s', r⟩) : Wp (callM n ff ml) ⟨s, r⟩ P := wp_call.mpr (h1.wp ⟨hl, h⟩)
theorem wps_asg {k : D → M Unit} (h : Wp a st fun x s1 => Wp (k x) s1 fun _ s2 => Wp v s2 QF) : Wp (seqM (asgM a k) v) st QF := wp_seq.mpr (wp_asg.mpr h)
theorem wps_set (h : Wp a st fun x s1 => Wp v { s1 with r := s1.r.set i (.dat x) } QF) : Wp (seqM (asgM a (tgN i)) v) st QF := wps_asg (h.mono fun x s1 h => wp_tgN.mpr h)
theorem wps_drop (h : Wp a st fun x s1 => Wp v s1 QF) : Wp (seqM (dropM a) v) st QF := wp_seq.mpr (wp_drop.mpr h)
theorem wps_own (h : Wp ml st fun ds s1 => Wp v { s1 with r := s1.r.set i (.own ds) } QF) : Wp (seqM (ownM i ml) v) st QF := by
  refine wp_seq.mpr ?_
  unfold ownM
  exact wp_bind.mpr (h.mono fun ds s1 h => ⟨_, _, rfl, h⟩)
theorem wps_ownF (h : Wp ml ⟨s, r⟩ fun ds s1 => ∃ s2 r2, s1 = ⟨s2, r2⟩ ∧ i < r2.length ∧ Wp v ⟨s2, r2.set i (.dat (.lst ds))⟩ QF) : Wp (seqM (ownM i ml) (frzM i v)) ⟨s, r⟩ QF := wps_own (h.mono fun ds s1 ⟨s2, r2, e, hi, h⟩ => by
  subst e
  refine wps_frz (ds := ds) (List.getElem?_set_self hi) ?_
  rw [List.set_set]
  exact h)
theorem wps_ret (h : Wp a st fun x s1 => QF (.rt x) s1) : Wp (seqM (retM a) v) st QF := wp_seq.mpr (wp_ret.mpr h)
theorem wps_if {t : M Bool} (h : Wp t st fun c s1 => if c = true then Wp (seqM u (pureM .nx)) s1 (fun fl s1 => match fl with | .nx => Wp v s1 QF | .rt d => QF (.rt d) s1 | .bk => QF .bk s1 | .ct => QF .ct s1) else Wp v s1 QF) : Wp (seqM (ifS t (seqM u (pureM .nx)) (pureM .nx)) v) st QF :=
  wp_seq.mpr (wp_ifS.mpr (h.mono fun c s1 h => by
    cases c with
    | true => exact h
    | false => exact wp_pure.mpr h))
theorem wps_par (h : Wp mx st fun _ _ => True) : True := trivial
theorem wps_tup (h : Wp ml st fun ds s1 => ds.length ≤ sizeLine ∧ P (.tup false ds) s1) : Wp (tupM ml) st P := by
  unfold tupM fitM
  exact wp_bind.mpr (wp_bind.mpr (h.mono fun ds s1 ⟨hl, h⟩ => wp_lift.mpr ⟨ds, if_pos hl, wp_pure.mpr h⟩))
theorem wps_fit (h : Wp ml st fun ds s1 => ds.length ≤ sizeLine ∧ PL ds s1) : Wp (fitM ml) st PL := by
  unfold fitM
  exact wp_bind.mpr (h.mono fun ds s1 ⟨hl, h⟩ => wp_lift.mpr ⟨ds, if_pos hl, h⟩)
theorem wps_ofL (h : Wp ml st fun ds s1 => P (.lst ds) s1) : Wp (ofLM ml) st P := wp_bind.mpr (h.mono fun ds s1 h => wp_pure.mpr h)
theorem wps_xDat {Q : List Slot → Sta → Prop} {m : M (List Slot)} (h : Wp a st fun d s1 => Wp m s1 fun ss s2 => Q (.dat d :: ss) s2) : Wp (xDat a m) st Q := wp_bind.mpr (h.mono fun d s1 h => wp_bind.mpr (h.mono fun ss s2 h => wp_pure.mpr h))
theorem wps_xOwn {Q : List Slot → Sta → Prop} {m : M (List Slot)} (h : Wp ml st fun d s1 => Wp m s1 fun ss s2 => Q (.own d :: ss) s2) : Wp (xOwn ml m) st Q := wp_bind.mpr (h.mono fun d s1 h => wp_bind.mpr (h.mono fun ss s2 h => wp_pure.mpr h))
theorem wps_xDict {Q : List Slot → Sta → Prop} {m : M (List Slot)} (h : Wp m st fun ss s2 => Q (.ownd [] :: ss) s2) : Wp (xDict m) st Q := wp_bind.mpr (h.mono fun d s1 h => wp_pure.mpr h)
theorem wps_parM {m : M (List Slot)} (h : Wp m st fun ss s1 => ss.length = is.length ∧ Wp v { s1 with r := layR is ss s1.r } QF) : Wp (seqM (parM is m) v) st QF := by
  refine wp_seq.mpr ?_
  unfold parM
  exact wp_bind.mpr (h.mono fun ss s1 ⟨e, h⟩ => ⟨.nx, _, by show (if ss.length = is.length then _ else none) = _; rw [if_pos e], h⟩)
/-- an own list changed -/
theorem wps_mut {fm : List D → List D → Option (D × List D)} (h0 : r[i]? = some (.own xs)) (h : Wp ml ⟨s, r⟩ fun ds s1 => ∃ ys, s1.r[i]? = some (.own ys) ∧ ∃ d zs, fm ys ds = some (d, zs) ∧ P d { s1 with r := s1.r.set i (.own zs) }) : Wp (mutM i fm ml) ⟨s, r⟩ P := by
  obtain ⟨ds, s1, e, ys, hy, d, zs, hf, p⟩ := h
  refine ⟨d, _, ?_, p⟩
  unfold mutM ownOf
  rw [show (Sta.mk s r).r[i]? = _ from h0]
  simp only
  rw [e]
  simp only
  rw [hy]
  simp only
  rw [hf]
theorem ev_ownLen (h0 : r[i]? = some (.own xs)) : Ev (ownLenM i) ⟨s, r⟩ (.int xs.length) := by
  unfold Ev ownLenM ownOf
  rw [show (Sta.mk s r).r[i]? = _ from h0]
  rfl
theorem ev_ownIx {k : Int} (h0 : r[i]? = some (.own xs)) (h : Ev a ⟨s, r⟩ (.int k)) (hd : L2.atI xs k = some d) : Ev (ownIxM i a) ⟨s, r⟩ d := by
  unfold Ev ownIxM ownOf at *
  rw [show (Sta.mk s r).r[i]? = _ from h0]
  simp only
  rw [h]
  simp only
  rw [show (Sta.mk s r).r[i]? = _ from h0]
  simp only
  rw [show (asI (.int k)).bind (L2.atI xs) = L2.atI xs k from rfl, hd]
theorem wps_ownSet {k : Int} {j : Nat} (h0 : r[i]? = some (.own xs)) (h : Ev a ⟨s, r⟩ (.int k)) (hj : ixN xs.length k = some j) (p : PU () ⟨s, r.set i (.own (xs.set j d))⟩) : Wp (ownSetM i a d) ⟨s, r⟩ PU := by
  refine ⟨(), _, ?_, p⟩
  unfold Ev at h
  unfold ownSetM ownOf
  rw [show (Sta.mk s r).r[i]? = _ from h0]
  simp only
  rw [h]
  simp only
  rw [show (Sta.mk s r).r[i]? = _ from h0]
  simp only
  rw [show (asI (.int k)).bind (ixN xs.length) = ixN xs.length k from rfl, hj]
theorem ev_dGet {kvs : List (Key × D)} {j : Key} (h0 : r[i]? = some (.ownd kvs)) (h : Ev a ⟨s, r⟩ x) (hk : keyD x = some j) (hd : getP kvs j = some d) : Ev (dGetM i a) ⟨s, r⟩ d := by
  unfold Ev dGetM owndOf at *
  rw [show (Sta.mk s r).r[i]? = _ from h0]
  simp only
  rw [h]
  simp only
  rw [show (Sta.mk s r).r[i]? = _ from h0]
  simp only
  rw [hk, Option.bind_some, hd]
theorem wps_dSet {kvs : List (Key × D)} {j : Key} (h0 : r[i]? = some (.ownd kvs)) (h : Ev a ⟨s, r⟩ x) (hk : keyD x = some j) (hl : kvs.length < sizeLine) (p : PU () ⟨s, r.set i (.ownd (putP kvs j d))⟩) : Wp (dSetM i a d) ⟨s, r⟩ PU := by
  refine ⟨(), _, ?_, p⟩
  unfold Ev at h
  unfold dSetM owndOf
  rw [show (Sta.mk s r).r[i]? = _ from h0]
  simp only
  rw [h]
  simp only
  rw [show (Sta.mk s r).r[i]? = _ from h0]
  simp only
  rw [hk]
  simp only
  rw [if_pos hl]
/-- a comprehension that draws -/
theorem wps_comp {it : M (List D)} {k : D → M Unit} {tt : M Bool} {te : M D} (ρ : D → List Slot) (p : D → Bool) (J : Nat → List D → S → Prop) (hit : it st = some (ds, ⟨s, r⟩)) (hw : wipeR r vs = r) (hb : backR r r vs = r) (h0 : J 0 [] s)
    (hk : ∀ x ∈ ds, ∀ s1, Wp (k x) ⟨s1, r⟩ fun _ st => st = ⟨s1, ρ x⟩) (hρ : ∀ x ∈ ds, wipeR (ρ x) vs = r) (ht : ∀ x ∈ ds, ∀ s1, Ev tt ⟨s1, ρ x⟩ (p x))
    (step : ∀ i x acc s1, ds[i]? = some x → p x = true → J i acc s1 → Wp te ⟨s1, ρ x⟩ fun y st => ∃ s2, st = ⟨s2, ρ x⟩ ∧ J (i + 1) (acc ++ [y]) s2) (skip : ∀ i x acc s1, ds[i]? = some x → p x = false → J i acc s1 → J (i + 1) acc s1)
    (fin : ∀ acc s1, J ds.length acc s1 → acc.length ≤ sizeLine ∧ PL acc ⟨s1, r⟩) : Wp (compM it k tt te vs) st PL := by
  refine wp_comp (wp_of hit ?_)
  rw [show wipeR (Sta.mk s r).r vs = r from hw]
  refine wp_catL (fun i acc st => ∃ s1, st = ⟨s1, r⟩ ∧ J i acc s1) ⟨s, rfl, h0⟩ (fun i d acc st hd ⟨s1, e1, hj⟩ => ?_) (fun out st ⟨s1, e1, hj⟩ => ?_)
  · subst e1
    have hm : d ∈ ds := List.mem_of_getElem? hd
    refine wp_one.mpr ((hk d hm s1).mono fun _ s2 e3 => ?_)
    subst e3
    refine (ht d hm s1).wp ?_
    by_cases hp : p d = true
    · rw [if_pos hp]
      refine (step i d acc s1 hd hp hj).mono fun y st ⟨s2, e4, hj2⟩ => ?_
      subst e4
      exact ⟨s2, by show Sta.mk s2 (wipeR (ρ d) vs) = _; rw [hρ d hm], hj2⟩
    · rw [if_neg hp]
      refine ⟨s1, by show Sta.mk s1 (wipeR (ρ d) vs) = _; rw [hρ d hm], ?_⟩
      rw [List.append_nil]
      exact skip i d acc s1 hd (by simpa using hp) hj
  · subst e1
    obtain ⟨h1, h2⟩ := fin out s1 hj
    refine ⟨h1, ?_⟩
    show PL out ⟨s1, backR r r vs⟩
    rw [hb]; exact h2
/-- a comprehension whose test draws -/
theorem wps_compT {it : M (List D)} {k : D → M Unit} {tt : M Bool} {te : M D} (ρ : D → List Slot) (J : Nat → List D → S → Prop) (hit : it st = some (ds, ⟨s, r⟩)) (hw : wipeR r vs = r) (hb : backR r r vs = r) (h0 : J 0 [] s)
    (hk : ∀ x ∈ ds, ∀ s1, Wp (k x) ⟨s1, r⟩ fun _ st => st = ⟨s1, ρ x⟩) (hρ : ∀ x ∈ ds, wipeR (ρ x) vs = r)
    (step : ∀ i x acc s1, ds[i]? = some x → J i acc s1 → Wp tt ⟨s1, ρ x⟩ fun c st => ∃ s2, st = ⟨s2, ρ x⟩ ∧ (c = true → Wp te ⟨s2, ρ x⟩ fun y st => ∃ s3, st = ⟨s3, ρ x⟩ ∧ J (i + 1) (acc ++ [y]) s3) ∧ (c = false → J (i + 1) acc s2))
    (fin : ∀ acc s1, J ds.length acc s1 → acc.length ≤ sizeLine ∧ PL acc ⟨s1, r⟩) : Wp (compM it k tt te vs) st PL := by
  refine wp_comp (wp_of hit ?_)
  rw [show wipeR (Sta.mk s r).r vs = r from hw]
  refine wp_catL (fun i acc st => ∃ s1, st = ⟨s1, r⟩ ∧ J i acc s1) ⟨s, rfl, h0⟩ (fun i d acc st hd ⟨s1, e1, hj⟩ => ?_) (fun out st ⟨s1, e1, hj⟩ => ?_)
  · subst e1
    have hm : d ∈ ds := List.mem_of_getElem? hd
    refine wp_one.mpr ((hk d hm s1).mono fun _ s2 e3 => ?_)
    subst e3
    refine (step i d acc s1 hd hj).mono fun c st ⟨s2, e4, h1, h2⟩ => ?_
    subst e4
    cases c with
    | true =>
      rw [if_pos rfl]
      refine (h1 rfl).mono fun y st ⟨s3, e5, h3⟩ => ?_
      subst e5
      exact ⟨s3, by show Sta.mk s3 (wipeR (ρ d) vs) = _; rw [hρ d hm], h3⟩
    | false =>
      rw [if_neg (by decide)]
      refine ⟨s2, by show Sta.mk s2 (wipeR (ρ d) vs) = _; rw [hρ d hm], ?_⟩
      rw [List.append_nil]
      exact h2 rfl
  · subst e1
    obtain ⟨h1, h2⟩ := fin out s1 hj
    refine ⟨h1, ?_⟩
    show PL out ⟨s1, backR r r vs⟩
    rw [hb]; exact h2
/-- a loop whose turns keep the slots but for what J says -/
theorem wps_for {it : M (List D)} {k : D → M Unit} {body : M Fl} (J : Nat → Sta → Prop) {st0 : Sta} (hit : it st0 = some (ds, st)) (h0 : J 0 st)
    (step : ∀ i x s1, ds[i]? = some x → J i s1 → Wp (k x) s1 fun _ s2 => Wp body s2 fun fl s3 => match fl with | .nx => J (i + 1) s3 | .ct => J (i + 1) s3 | .bk => Wp v s3 QF | .rt d => QF (.rt d) s3)
    (fin : ∀ s1, J ds.length s1 → Wp v s1 QF) : Wp (seqM (forM it k body) v) st0 QF := by
  refine wp_seq.mpr (wp_for (ds := []) (wp_of hit ?_))
  refine wp_loop J h0 (fun i x s1 hx hj => (step i x s1 hx hj).mono fun _ s2 h => h.mono fun fl s3 h => ?_) fun s1 hj => fin s1 hj
  cases fl <;> exact h
end
end GA

set_option Elab.async false
set_option linter.all false
set_option maxRecDepth 100000
set_option maxHeartbeats 2000000
namespace GA.P
open PySem PySem.Spec PyProof.Rows L2 GenW HT
def b_is_integer : M Fl :=
    seqM (retM (andM (callD isiD (consM (varM 0) (consM (pureM (.raw (.ty "int"))) (pureM [])))) (notM (callD isiD (consM (varM 0) (consM (pureM (.raw (.ty "bool"))) (pureM []))))))) (
    pureM .nx)
def r_is_integer := runF 1 1 b_is_integer
def b_is_within : M Fl :=
    seqM (retM (andM (callM 1 r_is_integer (consM (varM 0) (pureM []))) (chainM leD leD (varM 1) (varM 0) (varM 2)))) (
    pureM .nx)
def r_is_within := runF 3 3 b_is_within
def b_is_size : M Fl :=
    seqM (retM (callM 3 r_is_within (consM (varM 0) (consM (pureM (.int 1)) (consM (pureM (.int (8))) (pureM [])))))) (
    pureM .nx)
def r_is_size := runF 1 1 b_is_size
def b_is_kind : M Fl :=
    seqM (retM (callM 3 r_is_within (consM (varM 1) (consM (pureM (.int 0)) (consM (op2M subD (varM 0) (pureM (.int 1))) (pureM [])))))) (
    pureM .nx)
def r_is_kind := runF 2 2 b_is_kind
def b_are_kinds : M Fl :=
    seqM (retM (allM true (seqI (varM 1)) (tgN 2) (pureM true) (callM 2 r_is_kind (consM (varM 0) (consM (varM 2) (pureM [])))) [2])) (
    pureM .nx)
def r_are_kinds := runF 3 2 b_are_kinds
def b_is_ascending : M Fl :=
    seqM (retM (callD allD (consM (ofLM (compM (itM zipD (consM (varM 0) (consM (slM (varM 0) (partM (pureM (.int 1))) (pureM none)) (pureM [])))) (tgT [tgN 1, tgN 2]) (pureM true) (op2M ltD (varM 1) (varM 2)) [1, 2])) (pureM [])))) (
    pureM .nx)
def r_is_ascending := runF 3 1 b_is_ascending
def b_is_marked : M Fl :=
    seqM (retM (andM (callD isiD (consM (varM 0) (consM (pureM (.raw (.ty "tuple"))) (pureM [])))) (andM (op2M eqD (callD lenD (consM (varM 0) (pureM []))) (varM 2)) (op2M eqD (op2M ixD (varM 0) (pureM (.int 0))) (varM 1))))) (
    pureM .nx)
def r_is_marked := runF 3 3 b_is_marked
def b_need_size : M Fl :=
    seqM (ifS (tNotM (testM (callM 1 r_is_size (consM (varM 0) (pureM []))))) (seqM (neverM) (
    pureM .nx)) (pureM .nx)) (
    pureM .nx)
def r_need_size := runF 1 1 b_need_size
def b_need_kind : M Fl :=
    seqM (ifS (tNotM (testM (callM 2 r_is_kind (consM (varM 0) (consM (varM 1) (pureM [])))))) (seqM (neverM) (
    pureM .nx)) (pureM .nx)) (
    pureM .nx)
def r_need_kind := runF 2 2 b_need_kind
def b_need_number : M Fl :=
    seqM (ifS (tOrM (tNotM (testM (callM 1 r_is_integer (consM (varM 0) (pureM []))))) (testM (op2M ltD (varM 0) (pureM (.int 0))))) (seqM (neverM) (
    pureM .nx)) (pureM .nx)) (
    pureM .nx)
def r_need_number := runF 1 1 b_need_number
def b_is_deck : M Fl :=
    seqM (dropM (callM 1 r_need_size (consM (varM 0) (pureM [])))) (
    seqM (ifS (tOrM (tNotM (testM (callD isiD (consM (varM 1) (consM (pureM (.raw (.ty "tuple"))) (pureM [])))))) (testM (op2M gtD (callD lenD (consM (varM 1) (pureM []))) (pureM (.int (60)))))) (seqM (retM (pureM (.bl false))) (
    pureM .nx)) (pureM .nx)) (
    seqM (retM (allM true (seqI (varM 1)) (tgN 2) (pureM true) (callM 2 r_is_kind (consM (varM 0) (consM (varM 2) (pureM [])))) [2])) (
    pureM .nx)))
def r_is_deck := runF 3 2 b_is_deck
def b_is_order : M Fl :=
    seqM (dropM (callM 1 r_need_number (consM (varM 0) (pureM [])))) (
    seqM (ifS (tOrM (tNotM (testM (callD isiD (consM (varM 1) (consM (pureM (.raw (.ty "tuple"))) (pureM [])))))) (testM (op2M neD (callD lenD (consM (varM 1) (pureM []))) (varM 0)))) (seqM (retM (pureM (.bl false))) (
    pureM .nx)) (pureM .nx)) (
    seqM (retM (andM (allM true (seqI (varM 1)) (tgN 2) (pureM true) (callM 1 r_is_integer (consM (varM 2) (pureM []))) [2]) (op2M eqD (ofLM (callL sortD (consM (varM 1) (pureM [])))) (ofLM (listRgM (varM 0)))))) (
    pureM .nx)))
def r_is_order := runF 3 2 b_is_order
def b_need_deck : M Fl :=
    seqM (ifS (tNotM (testM (callM 2 r_is_deck (consM (varM 0) (consM (varM 1) (pureM [])))))) (seqM (neverM) (
    pureM .nx)) (pureM .nx)) (
    pureM .nx)
def r_need_deck := runF 2 2 b_need_deck
def b_need_order : M Fl :=
    seqM (ifS (tNotM (testM (callM 2 r_is_order (consM (varM 0) (consM (varM 1) (pureM [])))))) (seqM (neverM) (
    pureM .nx)) (pureM .nx)) (
    pureM .nx)
def r_need_order := runF 2 2 b_need_order
def b_need_some_order : M Fl :=
    seqM (ifS (tOrM (tNotM (testM (callD isiD (consM (varM 0) (consM (pureM (.raw (.ty "tuple"))) (pureM [])))))) (testM (op2M gtD (callD lenD (consM (varM 0) (pureM []))) (pureM (.int (60)))))) (seqM (neverM) (
    pureM .nx)) (pureM .nx)) (
    seqM (dropM (callM 2 r_need_order (consM (callD lenD (consM (varM 0) (pureM []))) (consM (varM 0) (pureM []))))) (
    pureM .nx))
def r_need_some_order := runF 1 1 b_need_some_order
def b_laid : M Fl :=
    seqM (dropM (callM 2 r_need_deck (consM (pureM (.int (8))) (consM (varM 0) (pureM []))))) (
    seqM (dropM (callM 2 r_need_order (consM (callD lenD (consM (varM 0) (pureM []))) (consM (varM 1) (pureM []))))) (
    seqM (retM (callD tupD (consM (ofLM (compM (seqI (varM 1)) (tgN 2) (pureM true) (op2M ixD (varM 0) (varM 2)) [2])) (pureM [])))) (
    pureM .nx)))
def r_laid := runF 3 2 b_laid
def b_together : M Fl :=
    seqM (dropM (callM 1 r_need_some_order (consM (varM 0) (pureM [])))) (
    seqM (dropM (callM 2 r_need_order (consM (callD lenD (consM (varM 0) (pureM []))) (consM (varM 1) (pureM []))))) (
    seqM (retM (callD tupD (consM (ofLM (compM (seqI (varM 1)) (tgN 2) (pureM true) (op2M ixD (varM 0) (varM 2)) [2])) (pureM [])))) (
    pureM .nx)))
def r_together := runF 3 2 b_together
def b_undone_order : M Fl :=
    seqM (dropM (callM 1 r_need_some_order (consM (varM 0) (pureM [])))) (
    seqM (ownM 1 (repLM (ofLM (fitM (consM (pureM (.int 0)) (pureM [])))) (callD lenD (consM (varM 0) (pureM []))))) (
    seqM (forM (itM enumD (consM (varM 0) (pureM []))) (tgT [tgN 2, tgN 3]) (seqM (asgM (varM 2) (ownSetM 1 (varM 3))) (
    pureM .nx))) (
    seqM (retM (callD tupD (consM (varM 1) (pureM [])))) (
    pureM .nx))))
def r_undone_order := runF 4 1 b_undone_order
def b_is_lot : M Fl :=
    seqM (ifS (tOrM (tNotM (testM (callD isiD (consM (varM 0) (consM (pureM (.raw (.ty "tuple"))) (pureM [])))))) (testM (op2M eqD (varM 0) (tupM (pureM []))))) (seqM (retM (pureM (.bl false))) (
    pureM .nx)) (pureM .nx)) (
    seqM (retM (andM (callM 2 r_are_kinds (consM (pureM (.int (8))) (consM (varM 0) (pureM [])))) (callM 1 r_is_ascending (consM (varM 0) (pureM []))))) (
    pureM .nx))
def r_is_lot := runF 1 1 b_is_lot
def b_is_signed_lot : M Fl :=
    seqM (ifS (tOrM (tNotM (testM (callD isiD (consM (varM 0) (consM (pureM (.raw (.ty "tuple"))) (pureM [])))))) (testM (op2M neD (callD lenD (consM (varM 0) (pureM []))) (pureM (.int 2))))) (seqM (retM (pureM (.bl false))) (
    pureM .nx)) (pureM .nx)) (
    seqM (asgM (varM 0) (tgT [tgN 1, tgN 2])) (
    seqM (retM (andM (callM 1 r_is_lot (consM (varM 1) (pureM []))) (andM (callM 1 r_is_integer (consM (varM 2) (pureM []))) (op2M (inD false) (varM 2) (tupM (consM (pureM (.int (1))) (consM (pureM (.int (-1))) (pureM [])))))))) (
    pureM .nx)))
def r_is_signed_lot := runF 3 1 b_is_signed_lot
def b_is_throw : M Fl :=
    seqM (ifS (tOrM (tNotM (testM (callD isiD (consM (varM 0) (consM (pureM (.raw (.ty "tuple"))) (pureM [])))))) (testM (op2M eqD (varM 0) (tupM (pureM []))))) (seqM (retM (pureM (.bl false))) (
    pureM .nx)) (pureM .nx)) (
    seqM (ifS (tNotM (testM (allM true (seqI (varM 0)) (tgN 5) (pureM true) (callM 1 r_is_signed_lot (consM (varM 5) (pureM []))) [5]))) (seqM (retM (pureM (.bl false))) (
    pureM .nx)) (pureM .nx)) (
    seqM (ownM 1 (compM2 (seqI (varM 0)) (tgT [tgN 3, tgN 4]) (pureM true) (seqI (varM 3)) (tgN 2) (pureM true) (varM 2) [3, 4, 2] [2])) (
    frzM 1 (seqM (retM (op2M eqD (ofLM (callL sortD (consM (varM 1) (pureM [])))) (ofLM (listRgM (callD lenD (consM (varM 1) (pureM []))))))) (
    pureM .nx)))))
def r_is_throw := runF 6 1 b_is_throw
def b_need_throw : M Fl :=
    seqM (ifS (tNotM (testM (callM 1 r_is_throw (consM (varM 0) (pureM []))))) (seqM (neverM) (
    pureM .nx)) (pureM .nx)) (
    pureM .nx)
def r_need_throw := runF 1 1 b_need_throw
def b_size_of : M Fl :=
    seqM (dropM (callM 1 r_need_throw (consM (varM 0) (pureM [])))) (
    seqM (retM (callD sumD (consM (ofLM (compM (seqI (varM 0)) (tgT [tgN 1, tgN 2]) (pureM true) (callD lenD (consM (varM 1) (pureM []))) [1, 2])) (pureM [])))) (
    pureM .nx))
def r_size_of := runF 3 1 b_size_of
def b_still : M Fl :=
    seqM (dropM (callM 1 r_need_size (consM (varM 0) (pureM [])))) (
    seqM (retM (tupM (consM (tupM (consM (tupRgM (varM 0)) (consM (pureM (.int (1))) (pureM [])))) (pureM [])))) (
    pureM .nx))
def r_still := runF 1 1 b_still
def b_turning : M Fl :=
    seqM (dropM (callM 1 r_need_size (consM (varM 0) (pureM [])))) (
    seqM (retM (tupM (consM (tupM (consM (tupRgM (varM 0)) (consM (pureM (.int (-1))) (pureM [])))) (pureM [])))) (
    pureM .nx))
def r_turning := runF 1 1 b_turning
def b_position_in : M Fl :=
    seqM (asgM (pureM (.int 0)) (tgN 2)) (
    seqM (whileN 100 (testM (op2M (inD true) (varM 1) (op2M ixD (op2M ixD (varM 0) (varM 2)) (pureM (.int 0))))) (seqM (augM 2 addI (pureM (.int 1))) (
    pureM .nx))) (
    seqM (retM (varM 2)) (
    pureM .nx)))
def r_position_in := runF 3 2 b_position_in
def b_way_of : M Fl :=
    seqM (asgM (callM 1 r_size_of (consM (varM 0) (pureM []))) (tgN 3)) (
    seqM (dropM (callM 2 r_need_kind (consM (varM 3) (consM (varM 1) (pureM []))))) (
    seqM (dropM (callM 2 r_need_kind (consM (varM 3) (consM (varM 2) (pureM []))))) (
    seqM (asgM (callM 2 r_position_in (consM (varM 0) (consM (varM 1) (pureM [])))) (tgN 4)) (
    seqM (asgM (callM 2 r_position_in (consM (varM 0) (consM (varM 2) (pureM [])))) (tgN 5)) (
    seqM (ifS (testM (op2M ltD (varM 4) (varM 5))) (seqM (retM (pureM (.str "ahead"))) (
    pureM .nx)) (pureM .nx)) (
    seqM (ifS (testM (op2M gtD (varM 4) (varM 5))) (seqM (retM (pureM (.str "behind"))) (
    pureM .nx)) (pureM .nx)) (
    seqM (retM (ifM (testM (op2M eqD (op2M ixD (op2M ixD (varM 0) (varM 4)) (pureM (.int 1))) (pureM (.int (1))))) (pureM (.str "kept")) (pureM (.str "turned")))) (
    pureM .nx))))))))
def r_way_of := runF 6 3 b_way_of
def b_cards_of_lot : M Fl :=
    seqM (ownM 3 (compM (itM enumD (consM (varM 2) (pureM []))) (tgT [tgN 4, tgN 5]) (testM (op2M (inD false) (varM 5) (varM 0))) (varM 4) [4, 5])) (
    frzM 3 (seqM (retM (ifM (testM (op2M eqD (varM 1) (pureM (.int (1))))) (varM 3) (turnDM (varM 3)))) (
    pureM .nx)))
def r_cards_of_lot := runF 6 3 b_cards_of_lot
def b_order_after : M Fl :=
    seqM (dropM (callM 2 r_need_deck (consM (callM 1 r_size_of (consM (varM 0) (pureM []))) (consM (varM 1) (pureM []))))) (
    seqM (retM (callD tupD (consM (ofLM (compM2 (seqI (varM 0)) (tgT [tgN 3, tgN 4]) (pureM true) (seqI (callM 3 r_cards_of_lot (consM (varM 3) (consM (varM 4) (consM (varM 1) (pureM [])))))) (tgN 2) (pureM true) (varM 2) [3, 4, 2] [2])) (pureM [])))) (
    pureM .nx))
def r_order_after := runF 5 2 b_order_after
def b_deck_after : M Fl :=
    seqM (retM (callM 2 r_laid (consM (varM 1) (consM (callM 2 r_order_after (consM (varM 0) (consM (varM 1) (pureM [])))) (pureM []))))) (
    pureM .nx)
def r_deck_after := runF 2 2 b_deck_after
def b_is_row_of_ways : M Fl :=
    seqM (ifS (tOrM (tNotM (testM (callD isiD (consM (varM 1) (consM (pureM (.raw (.ty "tuple"))) (pureM [])))))) (testM (op2M neD (callD lenD (consM (varM 1) (pureM []))) (varM 0)))) (seqM (retM (pureM (.bl false))) (
    pureM .nx)) (pureM .nx)) (
    seqM (retM (allM true (seqI (varM 1)) (tgN 2) (pureM true) (op2M (inD false) (varM 2) (pureM (.tup false [.str "ahead", .str "behind", .str "kept", .str "turned"]))) [2])) (
    pureM .nx))
def r_is_row_of_ways := runF 3 2 b_is_row_of_ways
def b_is_table : M Fl :=
    seqM (ifS (tOrM (tNotM (testM (callD isiD (consM (varM 0) (consM (pureM (.raw (.ty "tuple"))) (pureM [])))))) (tNotM (testM (callM 1 r_is_size (consM (callD lenD (consM (varM 0) (pureM []))) (pureM [])))))) (seqM (retM (pureM (.bl false))) (
    pureM .nx)) (pureM .nx)) (
    seqM (ifS (tNotM (testM (allM true (seqI (varM 0)) (tgN 4) (pureM true) (callM 2 r_is_row_of_ways (consM (callD lenD (consM (varM 0) (pureM []))) (consM (varM 4) (pureM [])))) [4]))) (seqM (retM (pureM (.bl false))) (
    pureM .nx)) (pureM .nx)) (
    seqM (asgM (callD rgV (consM (callD lenD (consM (varM 0) (pureM []))) (pureM []))) (tgN 1)) (
    seqM (retM (callD allD (consM (ofLM (compM2 (seqRI (varM 1)) (tgN 2) (pureM true) (seqRI (varM 1)) (tgN 3) (pureM true) (op2M eqD (op2M ixD (op2M ixD (varM 0) (varM 3)) (varM 2)) (kixM [("ahead", .str "behind"), ("behind", .str "ahead"), ("kept", .str "kept"), ("turned", .str "turned")] (op2M ixD (op2M ixD (varM 0) (varM 2)) (varM 3)))) [2, 3] [3])) (pureM [])))) (
    pureM .nx))))
def r_is_table := runF 5 1 b_is_table
def b_need_table : M Fl :=
    seqM (ifS (tNotM (testM (callM 1 r_is_table (consM (varM 0) (pureM []))))) (seqM (neverM) (
    pureM .nx)) (pureM .nx)) (
    pureM .nx)
def r_need_table := runF 1 1 b_need_table
def b_table_of : M Fl :=
    seqM (asgM (callD rgV (consM (callM 1 r_size_of (consM (varM 0) (pureM []))) (pureM []))) (tgN 1)) (
    seqM (retM (callD tupD (consM (ofLM (compM (seqRI (varM 1)) (tgN 2) (pureM true) (callD tupD (consM (ofLM (compM (seqRI (varM 1)) (tgN 3) (pureM true) (callM 3 r_way_of (consM (varM 0) (consM (varM 2) (consM (varM 3) (pureM []))))) [3])) (pureM []))) [2])) (pureM [])))) (
    pureM .nx))
def r_table_of := runF 4 1 b_table_of
def b_falls_in_ring : M Fl :=
    seqM (asgM (op2M (inD false) (op2M ixD (op2M ixD (varM 0) (varM 1)) (varM 2)) (pureM (.tup false [.str "ahead", .str "kept"]))) (tgN 4)) (
    seqM (asgM (op2M (inD false) (op2M ixD (op2M ixD (varM 0) (varM 2)) (varM 3)) (pureM (.tup false [.str "ahead", .str "kept"]))) (tgN 5)) (
    seqM (asgM (op2M (inD false) (op2M ixD (op2M ixD (varM 0) (varM 1)) (varM 3)) (pureM (.tup false [.str "ahead", .str "kept"]))) (tgN 6)) (
    seqM (retM (andM (op2M eqD (varM 4) (varM 5)) (op2M neD (varM 4) (varM 6)))) (
    pureM .nx))))
def r_falls_in_ring := runF 7 4 b_falls_in_ring
def b_first_ring : M Fl :=
    seqM (asgM (callD rgV (consM (callD lenD (consM (varM 0) (pureM []))) (pureM []))) (tgN 1)) (
    seqM (forM (seqRI (varM 1)) (tgN 2) (seqM (forM (seqRI (varM 1)) (tgN 3) (seqM (forM (seqRI (varM 1)) (tgN 4) (seqM (ifS (testM (callM 4 r_falls_in_ring (consM (varM 0) (consM (varM 2) (consM (varM 3) (consM (varM 4) (pureM []))))))) (seqM (retM (tupM (consM (varM 2) (consM (varM 3) (consM (varM 4) (pureM [])))))) (
    pureM .nx)) (pureM .nx)) (
    pureM .nx))) (
    pureM .nx))) (
    pureM .nx))) (
    seqM (retM (pureM .non)) (
    pureM .nx)))
def r_first_ring := runF 5 1 b_first_ring
def b_lots_of_table : M Fl :=
    seqM (ownM 1 (fitM (pureM []))) (
    seqM (forM (itM enumD (consM (varM 0) (pureM []))) (tgT [tgN 2, tgN 3]) (seqM (asgM (callD tupD (consM (ofLM (compM (itM enumD (consM (varM 3) (pureM []))) (tgT [tgN 7, tgN 8]) (testM (op2M (inD false) (varM 8) (pureM (.tup false [.str "kept", .str "turned"])))) (varM 7) [7, 8])) (pureM []))) (tgN 4)) (
    seqM (ifS (testM (op2M eqD (op2M ixD (varM 4) (pureM (.int 0))) (varM 2))) (seqM (asgM (ifM (testM (op2M eqD (op2M ixD (varM 3) (varM 2)) (pureM (.str "kept")))) (pureM (.int (1))) (pureM (.int (-1)))) (tgN 5)) (
    seqM (dropM (mutM 1 fAppend (consM (tupM (consM (countSM (varM 3) (consM (pureM (.str "behind")) (pureM []))) (consM (varM 4) (consM (varM 5) (pureM []))))) (pureM [])))) (
    pureM .nx))) (pureM .nx)) (
    pureM .nx)))) (
    seqM (retM (callD tupD (consM (ofLM (compM (seqI (ofLM (callL sortDA (consM (varM 1) (pureM []))))) (tgT [tgN 6, tgN 4, tgN 5]) (pureM true) (tupM (consM (varM 4) (consM (varM 5) (pureM [])))) [6, 4, 5])) (pureM [])))) (
    pureM .nx)))
def r_lots_of_table := runF 9 1 b_lots_of_table
def b_judge_table : M Fl :=
    seqM (dropM (callM 1 r_need_table (consM (varM 0) (pureM [])))) (
    seqM (asgM (callM 1 r_first_ring (consM (varM 0) (pureM []))) (tgN 1)) (
    seqM (ifS (testM (op2M isnE (varM 1) (pureM .non))) (seqM (retM (tupM (consM (pureM (.str "ring")) (consM (varM 1) (pureM []))))) (
    pureM .nx)) (pureM .nx)) (
    seqM (retM (tupM (consM (pureM (.str "throw")) (consM (callM 1 r_lots_of_table (consM (varM 0) (pureM []))) (pureM []))))) (
    pureM .nx))))
def r_judge_table := runF 2 1 b_judge_table
def b_is_ring : M Fl :=
    seqM (dropM (callM 1 r_need_table (consM (varM 0) (pureM [])))) (
    seqM (ifS (tOrM (tNotM (testM (callM 2 r_is_deck (consM (callD lenD (consM (varM 0) (pureM []))) (consM (varM 1) (pureM [])))))) (testM (op2M neD (callD lenD (consM (varM 1) (pureM []))) (pureM (.int 3))))) (seqM (retM (pureM (.bl false))) (
    pureM .nx)) (pureM .nx)) (
    seqM (asgM (varM 1) (tgT [tgN 2, tgN 3, tgN 4])) (
    seqM (retM (callM 4 r_falls_in_ring (consM (varM 0) (consM (varM 2) (consM (varM 3) (consM (varM 4) (pureM []))))))) (
    pureM .nx))))
def r_is_ring := runF 5 2 b_is_ring
def b_table_holds : M Fl :=
    seqM (dropM (callM 1 r_need_table (consM (varM 0) (pureM [])))) (
    seqM (ifS (testM (callM 3 r_is_marked (consM (varM 1) (consM (pureM (.str "ring")) (consM (pureM (.int 2)) (pureM [])))))) (seqM (retM (callM 2 r_is_ring (consM (varM 0) (consM (op2M ixD (varM 1) (pureM (.int 1))) (pureM []))))) (
    pureM .nx)) (pureM .nx)) (
    seqM (ifS (tOrM (tNotM (testM (callM 3 r_is_marked (consM (varM 1) (consM (pureM (.str "throw")) (consM (pureM (.int 2)) (pureM []))))))) (tNotM (testM (callM 1 r_is_throw (consM (op2M ixD (varM 1) (pureM (.int 1))) (pureM [])))))) (seqM (retM (pureM (.bl false))) (
    pureM .nx)) (pureM .nx)) (
    seqM (retM (op2M eqD (callM 1 r_table_of (consM (op2M ixD (varM 1) (pureM (.int 1))) (pureM []))) (varM 0))) (
    pureM .nx))))
def r_table_holds := runF 2 2 b_table_holds
def b_order_by_table : M Fl :=
    seqM (dropM (callM 1 r_need_table (consM (varM 0) (pureM [])))) (
    seqM (dropM (callM 2 r_need_deck (consM (callD lenD (consM (varM 0) (pureM []))) (consM (varM 1) (pureM []))))) (
    seqM (ownM 2 (repLM (ofLM (fitM (consM (pureM (.int 0)) (pureM [])))) (callD lenD (consM (varM 1) (pureM []))))) (
    seqM (forM (itM enumD (consM (varM 1) (pureM []))) (tgT [tgN 3, tgN 4]) (seqM (forM (itM enumD (consM (slM (varM 1) (pureM none) (partM (varM 3))) (pureM []))) (tgT [tgN 5, tgN 6]) (seqM (asgM (ifM (testM (op2M (inD false) (op2M ixD (op2M ixD (varM 0) (varM 6)) (varM 4)) (pureM (.tup false [.str "ahead", .str "kept"])))) (varM 3) (varM 5)) (tgN 7)) (
    seqM (ownAugM 2 (varM 7) addI (pureM (.int 1))) (
    pureM .nx)))) (
    pureM .nx))) (
    seqM (ifS (tNotM (testM (callM 2 r_is_order (consM (callD lenD (consM (varM 1) (pureM []))) (consM (callD tupD (consM (varM 2) (pureM []))) (pureM [])))))) (seqM (retM (pureM .non)) (
    pureM .nx)) (pureM .nx)) (
    seqM (retM (callM 1 r_undone_order (consM (callD tupD (consM (varM 2) (pureM []))) (pureM [])))) (
    pureM .nx))))))
def r_order_by_table := runF 8 2 b_order_by_table
def b_opposite_lots : M Fl :=
    seqM (retM (ofLM (compM (seqI (turnDM (varM 0))) (tgT [tgN 1, tgN 2]) (pureM true) (tupM (consM (varM 1) (consM (negM (varM 2)) (pureM [])))) [1, 2]))) (
    pureM .nx)
def r_opposite_lots := runF 3 1 b_opposite_lots
def b_lots_within : M Fl :=
    seqM (ownM 2 (compM (seqI (varM 0)) (tgT [tgN 3, tgN 4]) (pureM true) (tupM (consM (callD tupD (consM (ofLM (compM (seqI (varM 3)) (tgN 5) (testM (op2M (inD false) (varM 5) (varM 1))) (varM 5) [5])) (pureM []))) (consM (varM 4) (pureM [])))) [3, 4])) (
    frzM 2 (seqM (retM (ofLM (compM (seqI (varM 2)) (tgT [tgN 3, tgN 4]) (testM (op2M neD (varM 3) (tupM (pureM [])))) (tupM (consM (varM 3) (consM (varM 4) (pureM [])))) [3, 4]))) (
    pureM .nx)))
def r_lots_within := runF 6 2 b_lots_within
def b_joined : M Fl :=
    seqM (ownM 2 (fitM (pureM []))) (
    seqM (forM (seqI (varM 1)) (tgT [tgN 3, tgN 4]) (seqM (asgM (callM 2 r_lots_within (consM (varM 0) (consM (varM 3) (pureM [])))) (tgN 5)) (
    seqM (dropM (mutM 2 fExtend (consM (ifM (testM (op2M eqD (varM 4) (pureM (.int (1))))) (varM 5) (callM 1 r_opposite_lots (consM (varM 5) (pureM [])))) (pureM [])))) (
    pureM .nx)))) (
    seqM (retM (callD tupD (consM (varM 2) (pureM [])))) (
    pureM .nx)))
def r_joined := runF 6 2 b_joined
def b_need_throws_of_one_size : M Fl :=
    seqM (ifS (testM (op2M neD (callM 1 r_size_of (consM (varM 0) (pureM []))) (callM 1 r_size_of (consM (varM 1) (pureM []))))) (seqM (neverM) (
    pureM .nx)) (pureM .nx)) (
    pureM .nx)
def r_need_throws_of_one_size := runF 2 2 b_need_throws_of_one_size
def b_both : M Fl :=
    seqM (dropM (callM 2 r_need_throws_of_one_size (consM (varM 0) (consM (varM 1) (pureM []))))) (
    seqM (retM (callM 2 r_joined (consM (varM 0) (consM (varM 1) (pureM []))))) (
    pureM .nx))
def r_both := runF 2 2 b_both
def b_is_throw_of_size : M Fl :=
    seqM (retM (andM (callM 1 r_is_throw (consM (varM 1) (pureM []))) (op2M eqD (callM 1 r_size_of (consM (varM 1) (pureM []))) (varM 0)))) (
    pureM .nx)
def r_is_throw_of_size := runF 2 2 b_is_throw_of_size
def b_need_throws : M Fl :=
    seqM (ifS (tOrM (tNotM (testM (callD isiD (consM (varM 1) (consM (pureM (.raw (.ty "tuple"))) (pureM [])))))) (testM (op2M gtD (callD lenD (consM (varM 1) (pureM []))) (pureM (.int (60)))))) (seqM (neverM) (
    pureM .nx)) (pureM .nx)) (
    seqM (ifS (tNotM (testM (allM true (seqI (varM 1)) (tgN 2) (pureM true) (callM 2 r_is_throw_of_size (consM (varM 0) (consM (varM 2) (pureM [])))) [2]))) (seqM (neverM) (
    pureM .nx)) (pureM .nx)) (
    pureM .nx))
def r_need_throws := runF 3 2 b_need_throws
def b_row_of : M Fl :=
    seqM (dropM (callM 1 r_need_size (consM (varM 0) (pureM [])))) (
    seqM (dropM (callM 2 r_need_throws (consM (varM 0) (consM (varM 1) (pureM []))))) (
    seqM (asgM (callM 1 r_still (consM (varM 0) (pureM []))) (tgN 2)) (
    seqM (forM (seqI (varM 1)) (tgN 3) (seqM (asgM (callM 2 r_joined (consM (varM 2) (consM (varM 3) (pureM [])))) (tgN 2)) (
    pureM .nx))) (
    seqM (retM (varM 2)) (
    pureM .nx)))))
def r_row_of := runF 4 2 b_row_of
def b_power : M Fl :=
    seqM (dropM (callM 1 r_need_throw (consM (varM 0) (pureM [])))) (
    seqM (dropM (callM 1 r_need_number (consM (varM 1) (pureM [])))) (
    seqM (ifS (testM (op2M eqD (varM 1) (pureM (.int 0)))) (seqM (retM (callM 1 r_still (consM (callM 1 r_size_of (consM (varM 0) (pureM []))) (pureM [])))) (
    pureM .nx)) (pureM .nx)) (
    seqM (ifS (testM (op2M eqD (op2M modD (varM 1) (pureM (.int 2))) (pureM (.int 1)))) (seqM (retM (varM 0)) (
    pureM .nx)) (pureM .nx)) (
    seqM (retM (callD tupD (consM (ofLM (compM (seqI (varM 0)) (tgT [tgN 2, tgN 3]) (pureM true) (tupM (consM (varM 2) (consM (pureM (.int (1))) (pureM [])))) [2, 3])) (pureM [])))) (
    pureM .nx)))))
def r_power := runF 4 2 b_power
def b_opposite : M Fl :=
    seqM (dropM (callM 1 r_need_some_order (consM (varM 0) (pureM [])))) (
    seqM (retM (turnDM (varM 0))) (
    pureM .nx))
def r_opposite := runF 1 1 b_opposite
def b_counts_of : M Fl :=
    seqM (dropM (callM 2 r_need_deck (consM (varM 0) (consM (varM 1) (pureM []))))) (
    seqM (retM (callD tupD (consM (ofLM (compM (itM rng1D (consM (varM 0) (pureM []))) (tgN 2) (pureM true) (countM (varM 1) (consM (varM 2) (pureM []))) [2])) (pureM [])))) (
    pureM .nx))
def r_counts_of := runF 3 2 b_counts_of
def b_can_come : M Fl :=
    seqM (dropM (callM 2 r_need_deck (consM (callM 1 r_size_of (consM (varM 0) (pureM []))) (consM (varM 1) (pureM []))))) (
    seqM (ownM 2 (compM (seqI (varM 1)) (tgN 3) (pureM true) (callM 2 r_position_in (consM (varM 0) (consM (varM 3) (pureM [])))) [3])) (
    frzM 2 (seqM (retM (op2M eqD (varM 2) (ofLM (callL sortD (consM (varM 2) (pureM [])))))) (
    pureM .nx))))
def r_can_come := runF 4 2 b_can_come
def b_is_desk : M Fl :=
    seqM (ifS (tOrM (tNotM (testM (callD isiD (consM (varM 0) (consM (pureM (.raw (.ty "tuple"))) (pureM [])))))) (tNotM (testM (callM 3 r_is_within (consM (callD lenD (consM (varM 0) (pureM []))) (consM (pureM (.int 1)) (consM (pureM (.int (6))) (pureM [])))))))) (seqM (retM (pureM (.bl false))) (
    pureM .nx)) (pureM .nx)) (
    seqM (retM (allM true (seqI (varM 0)) (tgN 1) (pureM true) (op2M (inD false) (varM 1) (pureM (.tup false [.str "tray", .str "pile"]))) [1])) (
    pureM .nx))
def r_is_desk := runF 2 1 b_is_desk
def b_need_desk : M Fl :=
    seqM (ifS (tNotM (testM (callM 1 r_is_desk (consM (varM 0) (pureM []))))) (seqM (neverM) (
    pureM .nx)) (pureM .nx)) (
    pureM .nx)
def r_need_desk := runF 1 1 b_need_desk
def b_is_sheet : M Fl :=
    seqM (dropM (callM 1 r_need_desk (consM (varM 0) (pureM [])))) (
    seqM (ifS (tOrM (tNotM (testM (callD isiD (consM (varM 1) (consM (pureM (.raw (.ty "tuple"))) (pureM [])))))) (tNotM (testM (callM 1 r_is_size (consM (callD lenD (consM (varM 1) (pureM []))) (pureM [])))))) (seqM (retM (pureM (.bl false))) (
    pureM .nx)) (pureM .nx)) (
    seqM (retM (allM true (seqI (varM 1)) (tgN 2) (pureM true) (callM 3 r_is_within (consM (varM 2) (consM (pureM (.int 0)) (consM (op2M subD (callD lenD (consM (varM 0) (pureM []))) (pureM (.int 1))) (pureM []))))) [2])) (
    pureM .nx)))
def r_is_sheet := runF 3 2 b_is_sheet
def b_need_sheet : M Fl :=
    seqM (ifS (tNotM (testM (callM 2 r_is_sheet (consM (varM 0) (consM (varM 1) (pureM [])))))) (seqM (neverM) (
    pureM .nx)) (pureM .nx)) (
    pureM .nx)
def r_need_sheet := runF 2 2 b_need_sheet
def b_lot_at : M Fl :=
    seqM (ownM 3 (compM (itM enumD (consM (varM 1) (pureM []))) (tgT [tgN 4, tgN 5]) (testM (op2M eqD (varM 5) (varM 2))) (varM 4) [4, 5])) (
    frzM 3 (seqM (retM (tupM (consM (callD tupD (consM (varM 3) (pureM []))) (consM (kixM [("tray", .int (1)), ("pile", .int (-1))] (op2M ixD (varM 0) (varM 2))) (pureM []))))) (
    pureM .nx)))
def r_lot_at := runF 6 3 b_lot_at
def b_throw_by : M Fl :=
    seqM (dropM (callM 2 r_need_sheet (consM (varM 0) (consM (varM 1) (pureM []))))) (
    seqM (retM (callD tupD (consM (ofLM (compM (itM rng1D (consM (callD lenD (consM (varM 0) (pureM []))) (pureM []))) (tgN 2) (testM (op2M (inD false) (varM 2) (varM 1))) (callM 3 r_lot_at (consM (varM 0) (consM (varM 1) (consM (varM 2) (pureM []))))) [2])) (pureM [])))) (
    pureM .nx))
def r_throw_by := runF 3 2 b_throw_by
def b_gathered : M Fl :=
    seqM (dropM (callM 2 r_need_sheet (consM (varM 0) (consM (varM 1) (pureM []))))) (
    seqM (dropM (callM 2 r_need_deck (consM (callD lenD (consM (varM 1) (pureM []))) (consM (varM 2) (pureM []))))) (
    seqM (ownM 3 (fitM (pureM []))) (
    seqM (forM (itM rng1D (consM (callD lenD (consM (varM 0) (pureM []))) (pureM []))) (tgN 4) (seqM (asgM (callM 3 r_lot_at (consM (varM 0) (consM (varM 1) (consM (varM 4) (pureM []))))) (tgT [tgN 5, tgN 6])) (
    seqM (dropM (mutM 3 fAppend (consM (callD tupD (consM (callM 3 r_cards_of_lot (consM (varM 5) (consM (varM 6) (consM (varM 2) (pureM []))))) (pureM []))) (pureM [])))) (
    pureM .nx)))) (
    seqM (retM (callD tupD (consM (varM 3) (pureM [])))) (
    pureM .nx)))))
def r_gathered := runF 7 3 b_gathered
def b_first_place : M Fl :=
    seqM (forM (itM rng2D (consM (varM 2) (consM (callD lenD (consM (varM 0) (pureM []))) (pureM [])))) (tgN 3) (seqM (ifS (testM (op2M eqD (kixM [("tray", .int (1)), ("pile", .int (-1))] (op2M ixD (varM 0) (varM 3))) (varM 1))) (seqM (retM (varM 3)) (
    pureM .nx)) (pureM .nx)) (
    pureM .nx))) (
    seqM (retM (pureM .non)) (
    pureM .nx))
def r_first_place := runF 4 3 b_first_place
def b_sheet_for : M Fl :=
    seqM (dropM (callM 1 r_need_desk (consM (varM 0) (pureM [])))) (
    seqM (ownM 2 (repLM (ofLM (fitM (consM (pureM (.int 0)) (pureM [])))) (callM 1 r_size_of (consM (varM 1) (pureM []))))) (
    seqM (asgM (pureM (.int 0)) (tgN 3)) (
    seqM (forM (seqI (varM 1)) (tgT [tgN 4, tgN 5]) (seqM (asgM (callM 3 r_first_place (consM (varM 0) (consM (varM 5) (consM (varM 3) (pureM []))))) (tgN 6)) (
    seqM (ifS (testM (op2M isD (varM 6) (pureM .non))) (seqM (retM (pureM .non)) (
    pureM .nx)) (pureM .nx)) (
    seqM (forM (seqI (varM 4)) (tgN 7) (seqM (asgM (varM 6) (ownSetM 2 (varM 7))) (
    pureM .nx))) (
    seqM (asgM (op2M addD (varM 6) (pureM (.int 1))) (tgN 3)) (
    pureM .nx)))))) (
    seqM (retM (callD tupD (consM (varM 2) (pureM [])))) (
    pureM .nx)))))
def r_sheet_for := runF 8 2 b_sheet_for
def b_are_desks : M Fl :=
    seqM (ifS (tOrM (tNotM (testM (callD isiD (consM (varM 0) (consM (pureM (.raw (.ty "tuple"))) (pureM [])))))) (testM (op2M gtD (callD lenD (consM (varM 0) (pureM []))) (pureM (.int (12)))))) (seqM (retM (pureM (.bl false))) (
    pureM .nx)) (pureM .nx)) (
    seqM (retM (allM true (seqI (varM 0)) (tgN 1) (pureM true) (callM 1 r_is_desk (consM (varM 1) (pureM []))) [1])) (
    pureM .nx))
def r_are_desks := runF 2 1 b_are_desks
def b_need_desks : M Fl :=
    seqM (ifS (tNotM (testM (callM 1 r_are_desks (consM (varM 0) (pureM []))))) (seqM (neverM) (
    pureM .nx)) (pureM .nx)) (
    pureM .nx)
def r_need_desks := runF 1 1 b_need_desks
def b_is_plan : M Fl :=
    seqM (dropM (callM 1 r_need_desks (consM (varM 0) (pureM [])))) (
    seqM (ifS (tOrM (tNotM (testM (callD isiD (consM (varM 1) (consM (pureM (.raw (.ty "tuple"))) (pureM [])))))) (testM (op2M neD (callD lenD (consM (varM 1) (pureM []))) (callD lenD (consM (varM 0) (pureM [])))))) (seqM (retM (pureM (.bl false))) (
    pureM .nx)) (pureM .nx)) (
    seqM (ifS (tNotM (testM (callD allD (consM (ofLM (compM (itM zipD (consM (varM 0) (consM (varM 1) (pureM [])))) (tgT [tgN 3, tgN 2]) (pureM true) (callM 2 r_is_sheet (consM (varM 3) (consM (varM 2) (pureM [])))) [3, 2])) (pureM []))))) (seqM (retM (pureM (.bl false))) (
    pureM .nx)) (pureM .nx)) (
    seqM (retM (callD allD (consM (ofLM (compM (seqI (varM 1)) (tgN 2) (pureM true) (op2M eqD (callD lenD (consM (varM 2) (pureM []))) (callD lenD (consM (op2M ixD (varM 1) (pureM (.int 0))) (pureM [])))) [2])) (pureM [])))) (
    pureM .nx))))
def r_is_plan := runF 4 2 b_is_plan
def b_throw_of_plan : M Fl :=
    seqM (dropM (callM 1 r_need_size (consM (varM 0) (pureM [])))) (
    seqM (ifS (tOrM (tNotM (testM (callM 2 r_is_plan (consM (varM 1) (consM (varM 2) (pureM [])))))) (tNotM (testM (callD allD (consM (ofLM (compM (seqI (varM 2)) (tgN 3) (pureM true) (op2M eqD (callD lenD (consM (varM 3) (pureM []))) (varM 0)) [3])) (pureM [])))))) (seqM (neverM) (
    pureM .nx)) (pureM .nx)) (
    seqM (retM (callM 2 r_row_of (consM (varM 0) (consM (callD tupD (consM (ofLM (compM (itM zipD (consM (varM 1) (consM (varM 2) (pureM [])))) (tgT [tgN 4, tgN 3]) (pureM true) (callM 2 r_throw_by (consM (varM 4) (consM (varM 3) (pureM [])))) [4, 3])) (pureM []))) (pureM []))))) (
    pureM .nx)))
def r_throw_of_plan := runF 5 3 b_throw_of_plan
end GA.P

set_option Elab.async false
set_option linter.all false
set_option maxRecDepth 100000
set_option maxHeartbeats 2000000
namespace GA.k06
open PySem PySem.Spec PyProof.Rows L2 GenW HT GA.P
def topS (i : Nat) : Stmt := PySem.Challenge.pw_lotthrows_k06_whole_throws_card_by_card.main.body.getD i (.Pass ⟨0, 0, 0, 0⟩)
abbrev s_Llaw_deck : Stmt := topS 47
theorem sc_Llaw_deck : FnScope ["_law_script", "_law_mixed", "_law_cell"] ["_law_script"] (defScope s_Llaw_deck) := ⟨rfl, rfl, rfl, by decide +kernel, rfl, by decide +kernel, by decide +kernel⟩
abbrev s_law : Stmt := topS 61
theorem sc_law : FnScope ["_law_script", "_law_deck_here", "_law_turn", "_law_throw_here", "_law_cards_here"] ["_law_script"] (defScope s_law) := ⟨rfl, rfl, rfl, by decide +kernel, rfl, by decide +kernel, by decide +kernel⟩
abbrev s_is_integer : Stmt := topS 10
theorem sc_is_integer : FnScope ["thing"] ["thing"] (defScope s_is_integer) := ⟨rfl, rfl, rfl, by decide +kernel, rfl, by decide +kernel, by decide +kernel⟩
abbrev s_is_within : Stmt := topS 11
theorem sc_is_within : FnScope ["thing", "low", "high"] ["thing", "low", "high"] (defScope s_is_within) := ⟨rfl, rfl, rfl, by decide +kernel, rfl, by decide +kernel, by decide +kernel⟩
abbrev s_is_size : Stmt := topS 12
theorem sc_is_size : FnScope ["thing"] ["thing"] (defScope s_is_size) := ⟨rfl, rfl, rfl, by decide +kernel, rfl, by decide +kernel, by decide +kernel⟩
abbrev s_is_kind : Stmt := topS 13
theorem sc_is_kind : FnScope ["size", "thing"] ["size", "thing"] (defScope s_is_kind) := ⟨rfl, rfl, rfl, by decide +kernel, rfl, by decide +kernel, by decide +kernel⟩
abbrev s_are_kinds : Stmt := topS 14
theorem sc_are_kinds : FnScope ["size", "things", "thing"] ["size", "things"] (defScope s_are_kinds) := ⟨rfl, rfl, rfl, by decide +kernel, rfl, by decide +kernel, by decide +kernel⟩
abbrev s_is_ascending : Stmt := topS 15
theorem sc_is_ascending : FnScope ["things", "low", "high"] ["things"] (defScope s_is_ascending) := ⟨rfl, rfl, rfl, by decide +kernel, rfl, by decide +kernel, by decide +kernel⟩
abbrev s_need_size : Stmt := topS 16
theorem sc_need_size : FnScope ["thing"] ["thing"] (defScope s_need_size) := ⟨rfl, rfl, rfl, by decide +kernel, rfl, by decide +kernel, by decide +kernel⟩
abbrev s_need_kind : Stmt := topS 17
theorem sc_need_kind : FnScope ["size", "thing"] ["size", "thing"] (defScope s_need_kind) := ⟨rfl, rfl, rfl, by decide +kernel, rfl, by decide +kernel, by decide +kernel⟩
abbrev s_need_number : Stmt := topS 18
theorem sc_need_number : FnScope ["thing"] ["thing"] (defScope s_need_number) := ⟨rfl, rfl, rfl, by decide +kernel, rfl, by decide +kernel, by decide +kernel⟩
abbrev s_is_deck : Stmt := topS 21
theorem sc_is_deck : FnScope ["size", "thing", "card"] ["size", "thing"] (defScope s_is_deck) := ⟨rfl, rfl, rfl, by decide +kernel, rfl, by decide +kernel, by decide +kernel⟩
abbrev s_is_order : Stmt := topS 22
theorem sc_is_order : FnScope ["n", "thing", "card"] ["n", "thing"] (defScope s_is_order) := ⟨rfl, rfl, rfl, by decide +kernel, rfl, by decide +kernel, by decide +kernel⟩
abbrev s_need_deck : Stmt := topS 23
theorem sc_need_deck : FnScope ["size", "thing"] ["size", "thing"] (defScope s_need_deck) := ⟨rfl, rfl, rfl, by decide +kernel, rfl, by decide +kernel, by decide +kernel⟩
abbrev s_need_order : Stmt := topS 24
theorem sc_need_order : FnScope ["n", "thing"] ["n", "thing"] (defScope s_need_order) := ⟨rfl, rfl, rfl, by decide +kernel, rfl, by decide +kernel, by decide +kernel⟩
abbrev s_need_some_order : Stmt := topS 25
theorem sc_need_some_order : FnScope ["thing"] ["thing"] (defScope s_need_some_order) := ⟨rfl, rfl, rfl, by decide +kernel, rfl, by decide +kernel, by decide +kernel⟩
abbrev s_laid : Stmt := topS 26
theorem sc_laid : FnScope ["deck", "order", "card"] ["deck", "order"] (defScope s_laid) := ⟨rfl, rfl, rfl, by decide +kernel, rfl, by decide +kernel, by decide +kernel⟩
abbrev s_opposite : Stmt := topS 27
theorem sc_opposite : FnScope ["order"] ["order"] (defScope s_opposite) := ⟨rfl, rfl, rfl, by decide +kernel, rfl, by decide +kernel, by decide +kernel⟩
abbrev s_counts_of : Stmt := topS 28
theorem sc_counts_of : FnScope ["size", "deck", "kind"] ["size", "deck"] (defScope s_counts_of) := ⟨rfl, rfl, rfl, by decide +kernel, rfl, by decide +kernel, by decide +kernel⟩
abbrev s_is_lot : Stmt := topS 32
theorem sc_is_lot : FnScope ["thing"] ["thing"] (defScope s_is_lot) := ⟨rfl, rfl, rfl, by decide +kernel, rfl, by decide +kernel, by decide +kernel⟩
abbrev s_is_signed_lot : Stmt := topS 33
theorem sc_is_signed_lot : FnScope ["thing", "lot", "sign"] ["thing"] (defScope s_is_signed_lot) := ⟨rfl, rfl, rfl, by decide +kernel, rfl, by decide +kernel, by decide +kernel⟩
abbrev s_is_throw : Stmt := topS 34
theorem sc_is_throw : FnScope ["thing", "kinds", "kind", "lot", "_", "pair"] ["thing"] (defScope s_is_throw) := ⟨rfl, rfl, rfl, by decide +kernel, rfl, by decide +kernel, by decide +kernel⟩
abbrev s_need_throw : Stmt := topS 35
theorem sc_need_throw : FnScope ["thing"] ["thing"] (defScope s_need_throw) := ⟨rfl, rfl, rfl, by decide +kernel, rfl, by decide +kernel, by decide +kernel⟩
abbrev s_size_of : Stmt := topS 36
theorem sc_size_of : FnScope ["throw", "lot", "_"] ["throw"] (defScope s_size_of) := ⟨rfl, rfl, rfl, by decide +kernel, rfl, by decide +kernel, by decide +kernel⟩
abbrev s_still : Stmt := topS 37
theorem sc_still : FnScope ["size"] ["size"] (defScope s_still) := ⟨rfl, rfl, rfl, by decide +kernel, rfl, by decide +kernel, by decide +kernel⟩
abbrev s_turning : Stmt := topS 38
theorem sc_turning : FnScope ["size"] ["size"] (defScope s_turning) := ⟨rfl, rfl, rfl, by decide +kernel, rfl, by decide +kernel, by decide +kernel⟩
abbrev s_position_in : Stmt := topS 39
theorem sc_position_in : FnScope ["throw", "kind", "at"] ["throw", "kind"] (defScope s_position_in) := ⟨rfl, rfl, rfl, by decide +kernel, rfl, by decide +kernel, by decide +kernel⟩
abbrev s_way_of : Stmt := topS 40
theorem sc_way_of : FnScope ["throw", "a", "b", "size", "at_a", "at_b"] ["throw", "a", "b"] (defScope s_way_of) := ⟨rfl, rfl, rfl, by decide +kernel, rfl, by decide +kernel, by decide +kernel⟩
abbrev s_cards_of_lot : Stmt := topS 41
theorem sc_cards_of_lot : FnScope ["lot", "sign", "deck", "cards", "card", "kind"] ["lot", "sign", "deck"] (defScope s_cards_of_lot) := ⟨rfl, rfl, rfl, by decide +kernel, rfl, by decide +kernel, by decide +kernel⟩
abbrev s_order_after : Stmt := topS 42
theorem sc_order_after : FnScope ["throw", "deck", "card", "lot", "sign"] ["throw", "deck"] (defScope s_order_after) := ⟨rfl, rfl, rfl, by decide +kernel, rfl, by decide +kernel, by decide +kernel⟩
abbrev s_deck_after : Stmt := topS 43
theorem sc_deck_after : FnScope ["throw", "deck"] ["throw", "deck"] (defScope s_deck_after) := ⟨rfl, rfl, rfl, by decide +kernel, rfl, by decide +kernel, by decide +kernel⟩
abbrev s_can_come : Stmt := topS 45
theorem sc_can_come : FnScope ["throw", "deck", "lots", "kind"] ["throw", "deck"] (defScope s_can_come) := ⟨rfl, rfl, rfl, by decide +kernel, rfl, by decide +kernel, by decide +kernel⟩
abbrev s_Llaw_draw : Stmt := topS 48
theorem sc_Llaw_draw : FnScope ["_law_deck_here", "_law_many", "_law_number", "_law_cell"] ["_law_deck_here", "_law_many"] (defScope s_Llaw_draw) := ⟨rfl, rfl, rfl, by decide +kernel, rfl, by decide +kernel, by decide +kernel⟩
def b_Llaw_draw : M Fl :=
    seqM (asgM (op2M addD (drawsM 0) (pureM (.int 1))) (drawsG 0)) (
    seqM (asgM (op2M addD (mixedM 0) (op2M mulD (pureM (.int 58321)) (drawsM 0))) (tgN 2)) (
    seqM (ifS (cellsT 0) (seqM (asgM (cellsPopM 0) (tgN 3)) (
    seqM (ifS (testM (op2M geD (varM 3) (op2M powD (pureM (.int 10)) (pureM (.int 18))))) (seqM (dropM (cellsAppM 0 (op2M fdivD (varM 3) (callD max2D (consM (pureM (.int 2)) (consM (varM 1) (pureM []))))))) (
    seqM (retM (op2M modD (callD intD (consM (varM 3) (pureM []))) (varM 1))) (
    pureM .nx))) (pureM .nx)) (
    seqM (asgM (op2M addD (varM 2) (op2M modD (callD intD (consM (varM 3) (pureM []))) (pureM (.int 2147483549)))) (tgN 2)) (
    pureM .nx)))) (pureM .nx)) (
    seqM (asgM (op2M modD (callD intD (consM (op2M addD (op2M mulD (varM 2) (pureM (.int 48271))) (pureM (.int 65))) (pureM []))) (pureM (.int 2147483579))) (tgN 2)) (
    seqM (asgM (op2M modD (callD intD (consM (op2M addD (op2M addD (op2M mulD (varM 2) (varM 2)) (op2M mulD (pureM (.int 47123)) (drawsM 0))) (pureM (.int 77))) (pureM []))) (pureM (.int 2147483587))) (tgN 2)) (
    seqM (asgM (op2M modD (callD intD (consM (op2M mulD (varM 2) (pureM (.int 39373))) (pureM []))) (pureM (.int 2147483399))) (tgN 2)) (
    seqM (retM (op2M modD (callD intD (consM (op2M fdivD (varM 2) (pureM (.int 64))) (pureM []))) (varM 1))) (
    pureM .nx)))))))
def r_Llaw_draw := runF 4 2 b_Llaw_draw
abbrev s_Llaw_pick : Stmt := topS 49
theorem sc_Llaw_pick : FnScope ["_law_deck_here", "_law_some"] ["_law_deck_here", "_law_some"] (defScope s_Llaw_pick) := ⟨rfl, rfl, rfl, by decide +kernel, rfl, by decide +kernel, by decide +kernel⟩
def b_Llaw_pick : M Fl :=
    seqM (retM (op2M ixD (varM 1) (callM 2 r_Llaw_draw (consM (varM 0) (consM (callD lenD (consM (varM 1) (pureM []))) (pureM [])))))) (
    pureM .nx)
def r_Llaw_pick := runF 2 2 b_Llaw_pick
abbrev s_Llaw_cards : Stmt := topS 50
theorem sc_Llaw_cards : FnScope ["_law_deck_here", "_law_size_here", "_law_most", "_law_few", "_law_way_here", "_law_many", "_law_turn"] ["_law_deck_here", "_law_size_here", "_law_most"] (defScope s_Llaw_cards) := ⟨rfl, rfl, rfl, by decide +kernel, rfl, by decide +kernel, by decide +kernel⟩
def b_Llaw_cards : M Fl :=
    seqM (asgM (tupM (consM (callM 2 r_Llaw_draw (consM (varM 0) (consM (pureM (.int 5)) (pureM [])))) (consM (callM 2 r_Llaw_draw (consM (varM 0) (consM (op2M addD (varM 2) (pureM (.int 1))) (pureM [])))) (pureM [])))) (tgT [tgN 4, tgN 5])) (
    seqM (ifS (testM (op2M eqD (varM 4) (pureM (.int 0)))) (seqM (retM (callD tupD (consM (op2M mulD (ofLM (fitM (consM (callM 2 r_Llaw_draw (consM (varM 0) (consM (varM 1) (pureM [])))) (pureM [])))) (varM 5)) (pureM [])))) (
    pureM .nx)) (pureM .nx)) (
    seqM (asgM (op2M addD (pureM (.int 1)) (callM 2 r_Llaw_draw (consM (varM 0) (consM (varM 1) (pureM []))))) (tgN 3)) (
    seqM (retM (callD tupD (consM (ofLM (compM (itM rng1D (consM (varM 5) (pureM []))) (tgN 6) (pureM true) (callM 2 r_Llaw_draw (consM (varM 0) (consM (ifM (testM (op2M eqD (varM 4) (pureM (.int 1)))) (varM 3) (varM 1)) (pureM [])))) [6])) (pureM [])))) (
    pureM .nx))))
def r_Llaw_cards := runF 7 3 b_Llaw_cards
abbrev s_Llaw_order : Stmt := topS 51
theorem sc_Llaw_order : FnScope ["_law_deck_here", "_law_n", "_law_turn", "_law_left", "_law_found"] ["_law_deck_here", "_law_n"] (defScope s_Llaw_order) := ⟨rfl, rfl, rfl, by decide +kernel, rfl, by decide +kernel, by decide +kernel⟩
def b_Llaw_order : M Fl :=
    seqM (parM [3, 4] (xOwn (listRgM (varM 1)) (xOwn (fitM (pureM [])) (pureM [])))) (
    seqM (forM (itM rng1D (consM (varM 1) (pureM []))) (tgN 2) (seqM (dropM (mutM 4 fAppend (consM (mutM 3 fPopAt (consM (callM 2 r_Llaw_draw (consM (varM 0) (consM (ownLenM 3) (pureM [])))) (pureM []))) (pureM [])))) (
    pureM .nx))) (
    seqM (retM (callD tupD (consM (varM 4) (pureM [])))) (
    pureM .nx)))
def r_Llaw_order := runF 5 2 b_Llaw_order
abbrev s_Llaw_throw : Stmt := topS 52
theorem sc_Llaw_throw : FnScope ["_law_deck_here", "_law_size_here", "_law_places", "_law_lots", "_law_sign", "_law_way_here", "_law_many", "_law_at", "_law_kind", "_law_lot"] ["_law_deck_here", "_law_size_here"] (defScope s_Llaw_throw) := ⟨rfl, rfl, rfl, by decide +kernel, rfl, by decide +kernel, by decide +kernel⟩
def b_Llaw_throw : M Fl :=
    seqM (asgM (tupM (consM (callM 2 r_Llaw_draw (consM (varM 0) (consM (pureM (.int 6)) (pureM [])))) (consM (op2M addD (pureM (.int 1)) (callM 2 r_Llaw_draw (consM (varM 0) (consM (varM 1) (pureM []))))) (pureM [])))) (tgT [tgN 5, tgN 6])) (
    seqM (ifS (testM (op2M eqD (varM 5) (pureM (.int 0)))) (seqM (asgM (pureM (.int 1)) (tgN 6)) (
    pureM .nx)) (pureM .nx)) (
    seqM (asgM (ifM (testM (op2M neD (varM 5) (pureM (.int 1)))) (ofLM (compM (itM rng1D (consM (varM 1) (pureM []))) (tgN 8) (pureM true) (callM 2 r_Llaw_draw (consM (varM 0) (consM (varM 6) (pureM [])))) [8])) (ofLM (callL listD (consM (callM 2 r_Llaw_order (consM (varM 0) (consM (varM 1) (pureM [])))) (pureM []))))) (tgN 2)) (
    seqM (ownM 3 (compM (itM rng1D (consM (op2M addD (callD maxD (consM (varM 2) (pureM []))) (pureM (.int 1))) (pureM []))) (tgN 7) (pureM true) (callD tupD (consM (ofLM (compM (itM rng1D (consM (varM 1) (pureM []))) (tgN 8) (testM (op2M eqD (op2M ixD (varM 2) (varM 8)) (varM 7))) (varM 8) [8])) (pureM []))) [7])) (
    frzM 3 (seqM (asgM (callM 2 r_Llaw_pick (consM (varM 0) (consM (tupM (consM (pureM (.int 1)) (consM (negM (pureM (.int 1))) (pureM [])))) (pureM [])))) (tgN 4)) (
    seqM (retM (callD tupD (consM (ofLM (compM (seqI (varM 3)) (tgN 9) (testM (op2M neD (varM 9) (tupM (pureM [])))) (tupM (consM (varM 9) (consM (ifM (testM (op2M eqD (varM 5) (pureM (.int 2)))) (varM 4) (callM 2 r_Llaw_pick (consM (varM 0) (consM (tupM (consM (pureM (.int 1)) (consM (negM (pureM (.int 1))) (pureM [])))) (pureM []))))) (pureM [])))) [9])) (pureM [])))) (
    pureM .nx)))))))
def r_Llaw_throw := runF 10 2 b_Llaw_throw
abbrev s_Llaw_size : Stmt := topS 53
theorem sc_Llaw_size : FnScope ["_law_throw_here", "_law_lot", "_law_sign"] ["_law_throw_here"] (defScope s_Llaw_size) := ⟨rfl, rfl, rfl, by decide +kernel, rfl, by decide +kernel, by decide +kernel⟩
def b_Llaw_size : M Fl :=
    seqM (retM (callD sumD (consM (ofLM (compM (seqI (varM 0)) (tgT [tgN 1, tgN 2]) (pureM true) (callD lenD (consM (varM 1) (pureM []))) [1, 2])) (pureM [])))) (
    pureM .nx)
def r_Llaw_size := runF 3 1 b_Llaw_size
abbrev s_Llaw_after : Stmt := topS 54
theorem sc_Llaw_after : FnScope ["_law_throw_here", "_law_cards_here", "_law_found", "_law_heap", "_law_places", "_law_heaps", "_law_at", "_law_kind", "_law_card", "_law_lot", "_law_sign"] ["_law_throw_here", "_law_cards_here"] (defScope s_Llaw_after) := ⟨rfl, rfl, rfl, by decide +kernel, rfl, by decide +kernel, by decide +kernel⟩
def b_Llaw_after : M Fl :=
    seqM (parM [4, 5] (xDict (xOwn (compM (seqI (varM 0)) (tgN 9) (pureM true) (ofLM (fitM (pureM []))) [9]) (pureM [])))) (
    seqM (forM (itM enumD (consM (varM 0) (pureM []))) (tgT [tgN 6, tgT [tgN 9, tgN 10]]) (seqM (forM (seqI (varM 9)) (tgN 7) (seqM (asgM (varM 6) (dSetM 4 (varM 7))) (
    pureM .nx))) (
    pureM .nx))) (
    seqM (forM (itM enumD (consM (varM 1) (pureM []))) (tgT [tgN 8, tgN 7]) (seqM (asgM (dGetM 4 (varM 7)) (tgN 6)) (
    seqM (asgM (ifM (testM (op2M eqD (op2M ixD (op2M ixD (varM 0) (varM 6)) (pureM (.int 1))) (pureM (.int 1)))) (op2M addD (ownIxM 5 (varM 6)) (ofLM (fitM (consM (varM 8) (pureM []))))) (op2M addD (ofLM (fitM (consM (varM 8) (pureM [])))) (ownIxM 5 (varM 6)))) (ownSetM 5 (varM 6))) (
    pureM .nx)))) (
    seqM (ownM 2 (fitM (pureM []))) (
    seqM (forM (seqI (varM 5)) (tgN 3) (seqM (dropM (mutM 2 fExtend (consM (varM 3) (pureM [])))) (
    pureM .nx))) (
    seqM (retM (callD tupD (consM (varM 2) (pureM [])))) (
    pureM .nx))))))
def r_Llaw_after := runF 11 2 b_Llaw_after
abbrev s_Llaw_laid : Stmt := topS 55
theorem sc_Llaw_laid : FnScope ["_law_cards_here", "_law_order_here", "_law_card"] ["_law_cards_here", "_law_order_here"] (defScope s_Llaw_laid) := ⟨rfl, rfl, rfl, by decide +kernel, rfl, by decide +kernel, by decide +kernel⟩
def b_Llaw_laid : M Fl :=
    seqM (retM (callD tupD (consM (ofLM (compM (seqI (varM 1)) (tgN 2) (pureM true) (op2M ixD (varM 0) (varM 2)) [2])) (pureM [])))) (
    pureM .nx)
def r_Llaw_laid := runF 3 2 b_Llaw_laid
abbrev s_Llaw_way : Stmt := topS 56
theorem sc_Llaw_way : FnScope ["_law_throw_here", "_law_a", "_law_b", "_law_near", "_law_far", "_law_at", "_law_lot", "_law_sign"] ["_law_throw_here", "_law_a", "_law_b"] (defScope s_Llaw_way) := ⟨rfl, rfl, rfl, by decide +kernel, rfl, by decide +kernel, by decide +kernel⟩
def b_Llaw_way : M Fl :=
    seqM (asgM (op2M ixD (ofLM (compM (itM enumD (consM (varM 0) (pureM []))) (tgT [tgN 5, tgT [tgN 6, tgN 7]]) (testM (op2M (inD false) (varM 1) (varM 6))) (varM 5) [5, 6, 7])) (pureM (.int 0))) (tgN 3)) (
    seqM (asgM (op2M ixD (ofLM (compM (itM enumD (consM (varM 0) (pureM []))) (tgT [tgN 5, tgT [tgN 6, tgN 7]]) (testM (op2M (inD false) (varM 2) (varM 6))) (varM 5) [5, 6, 7])) (pureM (.int 0))) (tgN 4)) (
    seqM (ifS (testM (op2M neD (varM 3) (varM 4))) (seqM (retM (ifM (testM (op2M ltD (varM 3) (varM 4))) (pureM (.str "ahead")) (pureM (.str "behind")))) (
    pureM .nx)) (pureM .nx)) (
    seqM (retM (ifM (testM (op2M eqD (op2M ixD (op2M ixD (varM 0) (varM 3)) (pureM (.int 1))) (pureM (.int 1)))) (pureM (.str "kept")) (pureM (.str "turned")))) (
    pureM .nx))))
def r_Llaw_way := runF 8 3 b_Llaw_way
abbrev s_Llaw_is_after_right : Stmt := topS 57
theorem sc_Llaw_is_after_right : FnScope ["_law_throw_here", "_law_cards_here", "_law_near", "_law_size_here", "_law_order_here"] ["_law_throw_here", "_law_cards_here"] (defScope s_Llaw_is_after_right) := ⟨rfl, rfl, rfl, by decide +kernel, rfl, by decide +kernel, by decide +kernel⟩
def b_Llaw_is_after_right : M Fl :=
    seqM (parM [3, 4] (xDat (callM 1 r_Llaw_size (consM (varM 0) (pureM []))) (xDat (callM 2 r_Llaw_after (consM (varM 0) (consM (varM 1) (pureM [])))) (pureM [])))) (
    seqM (ifS (testM (op2M neD (callD reprD (consM (tupM (consM (callM 2 r_order_after (consM (varM 0) (consM (varM 1) (pureM [])))) (consM (callM 2 r_order_after (pickM [1, 0] (consM (varM 1) (consM (varM 0) (pureM []))))) (pureM [])))) (pureM []))) (callD reprD (consM (tupM (consM (varM 4) (consM (varM 4) (pureM [])))) (pureM []))))) (seqM (retM (pureM (.bl false))) (
    pureM .nx)) (pureM .nx)) (
    seqM (asgM (callM 2 r_deck_after (consM (varM 0) (consM (varM 1) (pureM [])))) (tgN 2)) (
    seqM (ifS (testM (op2M neD (callD reprD (consM (tupM (consM (varM 2) (consM (callM 2 r_deck_after (pickM [1, 0] (consM (varM 1) (consM (varM 0) (pureM []))))) (consM (callM 2 r_laid (consM (varM 1) (consM (varM 4) (pureM [])))) (pureM []))))) (pureM []))) (callD reprD (consM (op2M mulD (tupM (consM (callM 2 r_Llaw_laid (consM (varM 1) (consM (varM 4) (pureM [])))) (pureM []))) (pureM (.int 3))) (pureM []))))) (seqM (retM (pureM (.bl false))) (
    pureM .nx)) (pureM .nx)) (
    seqM (retM (op2M eqD (callD reprD (consM (tupM (consM (callM 2 r_counts_of (consM (varM 3) (consM (varM 2) (pureM [])))) (consM (callM 2 r_can_come (consM (varM 0) (consM (varM 2) (pureM [])))) (consM (callM 1 r_size_of (consM (varM 0) (pureM []))) (pureM []))))) (pureM []))) (callD reprD (consM (tupM (consM (callM 2 r_counts_of (consM (varM 3) (consM (varM 1) (pureM [])))) (consM (pureM (.bl true)) (consM (varM 3) (pureM []))))) (pureM []))))) (
    pureM .nx)))))
def r_Llaw_is_after_right := runF 5 2 b_Llaw_is_after_right
abbrev s_Llaw_are_twos_right : Stmt := topS 58
theorem sc_Llaw_are_twos_right : FnScope ["_law_deck_here", "_law_throw_here", "_law_cards_here", "_law_order_here", "_law_spots", "_law_turn", "_law_way_here", "_law_i", "_law_j", "_law_at", "_law_card"] ["_law_deck_here", "_law_throw_here", "_law_cards_here"] (defScope s_Llaw_are_twos_right) := ⟨rfl, rfl, rfl, by decide +kernel, rfl, by decide +kernel, by decide +kernel⟩
def b_Llaw_are_twos_right : M Fl :=
    seqM (asgM (callM 2 r_order_after (consM (varM 1) (consM (varM 2) (pureM [])))) (tgN 3)) (
    seqM (ownDM 4 (dictPM (consM (ofLM (compM (itM enumD (consM (varM 3) (pureM []))) (tgT [tgN 9, tgN 10]) (pureM true) (tupM (consM (varM 10) (consM (varM 9) (pureM [])))) [9, 10])) (pureM [])))) (
    seqM (forM (itM rng1D (consM (ifM (testM (op2M gtD (callD lenD (consM (varM 2) (pureM []))) (pureM (.int 1)))) (pureM (.int 12)) (pureM (.int 0))) (pureM []))) (tgN 5) (seqM (asgM (ofLM (callL sortD (consM (ofLM (fitM (consM (callM 2 r_Llaw_draw (consM (varM 0) (consM (callD lenD (consM (varM 2) (pureM []))) (pureM [])))) (consM (callM 2 r_Llaw_draw (consM (varM 0) (consM (callD lenD (consM (varM 2) (pureM []))) (pureM [])))) (pureM []))))) (pureM [])))) (tgT [tgN 7, tgN 8])) (
    seqM (asgM (callM 3 r_way_of (consM (varM 1) (consM (op2M ixD (varM 2) (varM 7)) (consM (op2M ixD (varM 2) (varM 8)) (pureM []))))) (tgN 6)) (
    seqM (ifS (tOrM (testM (op2M neD (varM 6) (callM 3 r_Llaw_way (consM (varM 1) (consM (op2M ixD (varM 2) (varM 7)) (consM (op2M ixD (varM 2) (varM 8)) (pureM []))))))) (tAndM (testM (op2M neD (varM 7) (varM 8))) (testM (op2M neD (op2M ltD (dGetM 4 (varM 7)) (dGetM 4 (varM 8))) (op2M (inD false) (varM 6) (tupM (consM (pureM (.str "ahead")) (consM (pureM (.str "kept")) (pureM []))))))))) (seqM (retM (pureM (.bl false))) (
    pureM .nx)) (pureM .nx)) (
    pureM .nx))))) (
    seqM (retM (pureM (.bl true))) (
    pureM .nx))))
def r_Llaw_are_twos_right := runF 11 3 b_Llaw_are_twos_right
abbrev s_Llaw_are_parts_right : Stmt := topS 59
theorem sc_Llaw_are_parts_right : FnScope ["_law_deck_here", "_law_throw_here", "_law_cards_here", "_law_order_here", "_law_some", "_law_due", "_law_more", "_law_at", "_law_card"] ["_law_deck_here", "_law_throw_here", "_law_cards_here"] (defScope s_Llaw_are_parts_right) := ⟨rfl, rfl, rfl, by decide +kernel, rfl, by decide +kernel, by decide +kernel⟩
def b_Llaw_are_parts_right : M Fl :=
    seqM (asgM (callM 2 r_order_after (consM (varM 1) (consM (varM 2) (pureM [])))) (tgN 3)) (
    seqM (ownM 4 (compM (itM rng1D (consM (callD lenD (consM (varM 2) (pureM []))) (pureM []))) (tgN 7) (testM (op2M eqD (callM 2 r_Llaw_draw (consM (varM 0) (consM (pureM (.int 2)) (pureM [])))) (pureM (.int 0)))) (varM 7) [7])) (
    frzM 4 (seqM (asgM (callD tupD (consM (ofLM (compM (seqI (varM 3)) (tgN 8) (testM (op2M (inD false) (varM 8) (varM 4))) (indexM (varM 4) (consM (varM 8) (pureM []))) [8])) (pureM []))) (tgN 5)) (
    seqM (ifS (testM (op2M neD (callD reprD (consM (callM 2 r_order_after (consM (varM 1) (consM (callD tupD (consM (ofLM (compM (seqI (varM 4)) (tgN 7) (pureM true) (op2M ixD (varM 2) (varM 7)) [7])) (pureM []))) (pureM [])))) (pureM []))) (callD reprD (consM (varM 5) (pureM []))))) (seqM (retM (pureM (.bl false))) (
    pureM .nx)) (pureM .nx)) (
    seqM (asgM (op2M addD (varM 2) (callM 3 r_Llaw_cards (consM (varM 0) (consM (callM 1 r_Llaw_size (consM (varM 1) (pureM []))) (consM (ifM (testM (op2M gtD (callD lenD (consM (varM 2) (pureM []))) (pureM (.int 50)))) (op2M subD (pureM (.int 60)) (callD lenD (consM (varM 2) (pureM [])))) (pureM (.int 4))) (pureM [])))))) (tgN 6)) (
    seqM (retM (op2M eqD (callD reprD (consM (callD tupD (consM (ofLM (compM (seqI (callM 2 r_order_after (consM (varM 1) (consM (varM 6) (pureM []))))) (tgN 8) (testM (op2M ltD (varM 8) (callD lenD (consM (varM 2) (pureM []))))) (varM 8) [8])) (pureM []))) (pureM []))) (callD reprD (consM (varM 3) (pureM []))))) (
    pureM .nx)))))))
def r_Llaw_are_parts_right := runF 9 3 b_Llaw_are_parts_right
abbrev s_Llaw_are_plain_right : Stmt := topS 60
theorem sc_Llaw_are_plain_right : FnScope ["_law_throw_here", "_law_cards_here", "_law_twice", "_law_size_here", "_law_row", "_law_near", "_law_due", "_law_lot", "_law_sign", "_law_at"] ["_law_throw_here", "_law_cards_here"] (defScope s_Llaw_are_plain_right) := ⟨rfl, rfl, rfl, by decide +kernel, rfl, by decide +kernel, by decide +kernel⟩
def b_Llaw_are_plain_right : M Fl :=
    seqM (parM [3, 4] (xDat (callM 1 r_Llaw_size (consM (varM 0) (pureM []))) (xDat (tupRgM (callD lenD (consM (varM 1) (pureM [])))) (pureM [])))) (
    seqM (ifS (testM (op2M neD (callD reprD (consM (tupM (consM (callM 2 r_order_after (consM (callM 1 r_still (consM (varM 3) (pureM []))) (consM (varM 1) (pureM [])))) (consM (callM 2 r_order_after (consM (callM 1 r_turning (consM (varM 3) (pureM []))) (consM (varM 1) (pureM [])))) (pureM [])))) (pureM []))) (callD reprD (consM (tupM (consM (varM 4) (consM (turnDM (varM 4)) (pureM [])))) (pureM []))))) (seqM (retM (pureM (.bl false))) (
    pureM .nx)) (pureM .nx)) (
    seqM (ifS (testM (op2M neD (callD reprD (consM (callM 2 r_deck_after (consM (callM 1 r_turning (consM (varM 3) (pureM []))) (consM (varM 1) (pureM [])))) (pureM []))) (callD reprD (consM (callM 2 r_laid (consM (varM 1) (consM (callM 1 r_opposite (consM (varM 4) (pureM []))) (pureM [])))) (pureM []))))) (seqM (retM (pureM (.bl false))) (
    pureM .nx)) (pureM .nx)) (
    seqM (parM [5, 6] (xDat (callM 2 r_deck_after (consM (varM 0) (consM (varM 1) (pureM [])))) (xOwn (fitM (pureM [])) (pureM [])))) (
    seqM (asgM (ifM (testM (op2M ltD (callD lenD (consM (varM 1) (pureM []))) (pureM (.int 8)))) (callM 2 r_laid (consM (callM 2 r_order_after (consM (varM 0) (consM (varM 1) (pureM [])))) (consM (callM 2 r_order_after (consM (varM 0) (consM (varM 5) (pureM [])))) (pureM [])))) (pureM .non)) (tgN 2)) (
    seqM (forM (seqI (varM 0)) (tgT [tgN 7, tgN 8]) (seqM (dropM (mutM 6 fExtend (consM (ofLM (compM (seqI (varM 4)) (tgN 9) (testM (op2M (inD false) (op2M ixD (varM 1) (varM 9)) (varM 7))) (varM 9) [9])) (pureM [])))) (
    pureM .nx))) (
    seqM (ifS (tAndM (testM (op2M isnD (varM 2) (pureM .non))) (testM (op2M neD (callD reprD (consM (varM 2) (pureM []))) (callD reprD (consM (callD tupD (consM (varM 6) (pureM []))) (pureM [])))))) (seqM (retM (pureM (.bl false))) (
    pureM .nx)) (pureM .nx)) (
    seqM (retM (op2M eqD (callD reprD (consM (callM 2 r_deck_after (consM (varM 0) (consM (varM 5) (pureM [])))) (pureM []))) (callD reprD (consM (callD tupD (consM (ofLM (compM (seqI (varM 6)) (tgN 9) (pureM true) (op2M ixD (varM 1) (varM 9)) [9])) (pureM []))) (pureM []))))) (
    pureM .nx))))))))
def r_Llaw_are_plain_right := runF 10 2 b_Llaw_are_plain_right
def b_law : M Fl :=
    seqM (forM (itM rng1D (consM (pureM (.int 3)) (pureM []))) (tgN 2) (seqM (asgM (callM 2 r_Llaw_throw (consM (varM 1) (consM (op2M addD (pureM (.int 1)) (callM 2 r_Llaw_draw (consM (varM 1) (consM (pureM (.int 8)) (pureM []))))) (pureM [])))) (tgN 3)) (
    seqM (asgM (callM 3 r_Llaw_cards (consM (varM 1) (consM (callM 1 r_Llaw_size (consM (varM 3) (pureM []))) (consM (ifM (testM (op2M eqD (callM 2 r_Llaw_draw (consM (varM 1) (consM (pureM (.int 8)) (pureM [])))) (pureM (.int 0)))) (pureM (.int 60)) (callM 2 r_Llaw_pick (consM (varM 1) (consM (tupM (consM (pureM (.int 4)) (consM (pureM (.int 8)) (consM (pureM (.int 24)) (pureM []))))) (pureM []))))) (pureM []))))) (tgN 4)) (
    seqM (ifS (tOrM (tNotM (testM (callM 2 r_Llaw_is_after_right (consM (varM 3) (consM (varM 4) (pureM [])))))) (tNotM (testM (callM 3 r_Llaw_are_twos_right (consM (varM 1) (consM (varM 3) (consM (varM 4) (pureM [])))))))) (seqM (retM (pureM (.bl false))) (
    pureM .nx)) (pureM .nx)) (
    seqM (ifS (tOrM (tNotM (testM (callM 3 r_Llaw_are_parts_right (consM (varM 1) (consM (varM 3) (consM (varM 4) (pureM []))))))) (tNotM (testM (callM 2 r_Llaw_are_plain_right (consM (varM 3) (consM (varM 4) (pureM []))))))) (seqM (retM (pureM (.bl false))) (
    pureM .nx)) (pureM .nx)) (
    pureM .nx)))))) (
    seqM (retM (pureM (.bl true))) (
    pureM .nx))
structure Facts (P : Program) (w : World) (K : PySem.W.Frag) (mg : Str → Option Value) (base : Heap) (T : List Addr) where
  f_is_integer : Addr
  d_is_integer : FuncData
  F_is_integer : Fun K "is_integer" "is_integer" s_is_integer f_is_integer d_is_integer
  m_is_integer : mg "is_integer" = some (.ref f_is_integer)
  b_is_integer : L2.Binds K d_is_integer ["thing"] []
  f_is_within : Addr
  d_is_within : FuncData
  F_is_within : Fun K "is_within" "is_within" s_is_within f_is_within d_is_within
  m_is_within : mg "is_within" = some (.ref f_is_within)
  b_is_within : L2.Binds K d_is_within ["thing", "low", "high"] []
  f_is_size : Addr
  d_is_size : FuncData
  F_is_size : Fun K "is_size" "is_size" s_is_size f_is_size d_is_size
  m_is_size : mg "is_size" = some (.ref f_is_size)
  b_is_size : L2.Binds K d_is_size ["thing"] []
  f_is_kind : Addr
  d_is_kind : FuncData
  F_is_kind : Fun K "is_kind" "is_kind" s_is_kind f_is_kind d_is_kind
  m_is_kind : mg "is_kind" = some (.ref f_is_kind)
  b_is_kind : L2.Binds K d_is_kind ["size", "thing"] []
  f_are_kinds : Addr
  d_are_kinds : FuncData
  F_are_kinds : Fun K "are_kinds" "are_kinds" s_are_kinds f_are_kinds d_are_kinds
  m_are_kinds : mg "are_kinds" = some (.ref f_are_kinds)
  b_are_kinds : L2.Binds K d_are_kinds ["size", "things"] []
  f_is_ascending : Addr
  d_is_ascending : FuncData
  F_is_ascending : Fun K "is_ascending" "is_ascending" s_is_ascending f_is_ascending d_is_ascending
  m_is_ascending : mg "is_ascending" = some (.ref f_is_ascending)
  b_is_ascending : L2.Binds K d_is_ascending ["things"] []
  f_need_size : Addr
  d_need_size : FuncData
  F_need_size : Fun K "need_size" "need_size" s_need_size f_need_size d_need_size
  m_need_size : mg "need_size" = some (.ref f_need_size)
  b_need_size : L2.Binds K d_need_size ["thing"] []
  f_need_kind : Addr
  d_need_kind : FuncData
  F_need_kind : Fun K "need_kind" "need_kind" s_need_kind f_need_kind d_need_kind
  m_need_kind : mg "need_kind" = some (.ref f_need_kind)
  b_need_kind : L2.Binds K d_need_kind ["size", "thing"] []
  f_need_number : Addr
  d_need_number : FuncData
  F_need_number : Fun K "need_number" "need_number" s_need_number f_need_number d_need_number
  m_need_number : mg "need_number" = some (.ref f_need_number)
  b_need_number : L2.Binds K d_need_number ["thing"] []
  f_is_deck : Addr
  d_is_deck : FuncData
  F_is_deck : Fun K "is_deck" "is_deck" s_is_deck f_is_deck d_is_deck
  m_is_deck : mg "is_deck" = some (.ref f_is_deck)
  b_is_deck : L2.Binds K d_is_deck ["size", "thing"] []
  f_is_order : Addr
  d_is_order : FuncData
  F_is_order : Fun K "is_order" "is_order" s_is_order f_is_order d_is_order
  m_is_order : mg "is_order" = some (.ref f_is_order)
  b_is_order : L2.Binds K d_is_order ["n", "thing"] []
  f_need_deck : Addr
  d_need_deck : FuncData
  F_need_deck : Fun K "need_deck" "need_deck" s_need_deck f_need_deck d_need_deck
  m_need_deck : mg "need_deck" = some (.ref f_need_deck)
  b_need_deck : L2.Binds K d_need_deck ["size", "thing"] []
  f_need_order : Addr
  d_need_order : FuncData
  F_need_order : Fun K "need_order" "need_order" s_need_order f_need_order d_need_order
  m_need_order : mg "need_order" = some (.ref f_need_order)
  b_need_order : L2.Binds K d_need_order ["n", "thing"] []
  f_need_some_order : Addr
  d_need_some_order : FuncData
  F_need_some_order : Fun K "need_some_order" "need_some_order" s_need_some_order f_need_some_order d_need_some_order
  m_need_some_order : mg "need_some_order" = some (.ref f_need_some_order)
  b_need_some_order : L2.Binds K d_need_some_order ["thing"] []
  f_laid : Addr
  d_laid : FuncData
  F_laid : Fun K "laid" "laid" s_laid f_laid d_laid
  m_laid : mg "laid" = some (.ref f_laid)
  b_laid : L2.Binds K d_laid ["deck", "order"] []
  f_opposite : Addr
  d_opposite : FuncData
  F_opposite : Fun K "opposite" "opposite" s_opposite f_opposite d_opposite
  m_opposite : mg "opposite" = some (.ref f_opposite)
  b_opposite : L2.Binds K d_opposite ["order"] []
  f_counts_of : Addr
  d_counts_of : FuncData
  F_counts_of : Fun K "counts_of" "counts_of" s_counts_of f_counts_of d_counts_of
  m_counts_of : mg "counts_of" = some (.ref f_counts_of)
  b_counts_of : L2.Binds K d_counts_of ["size", "deck"] []
  f_is_lot : Addr
  d_is_lot : FuncData
  F_is_lot : Fun K "is_lot" "is_lot" s_is_lot f_is_lot d_is_lot
  m_is_lot : mg "is_lot" = some (.ref f_is_lot)
  b_is_lot : L2.Binds K d_is_lot ["thing"] []
  f_is_signed_lot : Addr
  d_is_signed_lot : FuncData
  F_is_signed_lot : Fun K "is_signed_lot" "is_signed_lot" s_is_signed_lot f_is_signed_lot d_is_signed_lot
  m_is_signed_lot : mg "is_signed_lot" = some (.ref f_is_signed_lot)
  b_is_signed_lot : L2.Binds K d_is_signed_lot ["thing"] []
  f_is_throw : Addr
  d_is_throw : FuncData
  F_is_throw : Fun K "is_throw" "is_throw" s_is_throw f_is_throw d_is_throw
  m_is_throw : mg "is_throw" = some (.ref f_is_throw)
  b_is_throw : L2.Binds K d_is_throw ["thing"] []
  f_need_throw : Addr
  d_need_throw : FuncData
  F_need_throw : Fun K "need_throw" "need_throw" s_need_throw f_need_throw d_need_throw
  m_need_throw : mg "need_throw" = some (.ref f_need_throw)
  b_need_throw : L2.Binds K d_need_throw ["thing"] []
  f_size_of : Addr
  d_size_of : FuncData
  F_size_of : Fun K "size_of" "size_of" s_size_of f_size_of d_size_of
  m_size_of : mg "size_of" = some (.ref f_size_of)
  b_size_of : L2.Binds K d_size_of ["throw"] []
  f_still : Addr
  d_still : FuncData
  F_still : Fun K "still" "still" s_still f_still d_still
  m_still : mg "still" = some (.ref f_still)
  b_still : L2.Binds K d_still ["size"] []
  f_turning : Addr
  d_turning : FuncData
  F_turning : Fun K "turning" "turning" s_turning f_turning d_turning
  m_turning : mg "turning" = some (.ref f_turning)
  b_turning : L2.Binds K d_turning ["size"] []
  f_position_in : Addr
  d_position_in : FuncData
  F_position_in : Fun K "position_in" "position_in" s_position_in f_position_in d_position_in
  m_position_in : mg "position_in" = some (.ref f_position_in)
  b_position_in : L2.Binds K d_position_in ["throw", "kind"] []
  f_way_of : Addr
  d_way_of : FuncData
  F_way_of : Fun K "way_of" "way_of" s_way_of f_way_of d_way_of
  m_way_of : mg "way_of" = some (.ref f_way_of)
  b_way_of : L2.Binds K d_way_of ["throw", "a", "b"] []
  f_cards_of_lot : Addr
  d_cards_of_lot : FuncData
  F_cards_of_lot : Fun K "cards_of_lot" "cards_of_lot" s_cards_of_lot f_cards_of_lot d_cards_of_lot
  m_cards_of_lot : mg "cards_of_lot" = some (.ref f_cards_of_lot)
  b_cards_of_lot : L2.Binds K d_cards_of_lot ["lot", "sign", "deck"] []
  f_order_after : Addr
  d_order_after : FuncData
  F_order_after : Fun K "order_after" "order_after" s_order_after f_order_after d_order_after
  m_order_after : mg "order_after" = some (.ref f_order_after)
  b_order_after : L2.Binds K d_order_after ["throw", "deck"] []
  f_deck_after : Addr
  d_deck_after : FuncData
  F_deck_after : Fun K "deck_after" "deck_after" s_deck_after f_deck_after d_deck_after
  m_deck_after : mg "deck_after" = some (.ref f_deck_after)
  b_deck_after : L2.Binds K d_deck_after ["throw", "deck"] []
  f_can_come : Addr
  d_can_come : FuncData
  F_can_come : Fun K "can_come" "can_come" s_can_come f_can_come d_can_come
  m_can_come : mg "can_come" = some (.ref f_can_come)
  b_can_come : L2.Binds K d_can_come ["throw", "deck"] []
  f_Llaw_deck : Addr
  d_Llaw_deck : FuncData
  F_Llaw_deck : Fun K "_law_deck" "_law_deck" s_Llaw_deck f_Llaw_deck d_Llaw_deck
  m_Llaw_deck : mg "_law_deck" = some (.ref f_Llaw_deck)
  b_Llaw_deck : L2.Binds K d_Llaw_deck ["_law_script"] []
  f_Llaw_draw : Addr
  d_Llaw_draw : FuncData
  F_Llaw_draw : Fun K "_law_draw" "_law_draw" s_Llaw_draw f_Llaw_draw d_Llaw_draw
  m_Llaw_draw : mg "_law_draw" = some (.ref f_Llaw_draw)
  b_Llaw_draw : L2.Binds K d_Llaw_draw ["_law_deck_here", "_law_many"] []
  f_Llaw_pick : Addr
  d_Llaw_pick : FuncData
  F_Llaw_pick : Fun K "_law_pick" "_law_pick" s_Llaw_pick f_Llaw_pick d_Llaw_pick
  m_Llaw_pick : mg "_law_pick" = some (.ref f_Llaw_pick)
  b_Llaw_pick : L2.Binds K d_Llaw_pick ["_law_deck_here", "_law_some"] []
  f_Llaw_cards : Addr
  d_Llaw_cards : FuncData
  F_Llaw_cards : Fun K "_law_cards" "_law_cards" s_Llaw_cards f_Llaw_cards d_Llaw_cards
  m_Llaw_cards : mg "_law_cards" = some (.ref f_Llaw_cards)
  b_Llaw_cards : L2.Binds K d_Llaw_cards ["_law_deck_here", "_law_size_here", "_law_most"] []
  f_Llaw_order : Addr
  d_Llaw_order : FuncData
  F_Llaw_order : Fun K "_law_order" "_law_order" s_Llaw_order f_Llaw_order d_Llaw_order
  m_Llaw_order : mg "_law_order" = some (.ref f_Llaw_order)
  b_Llaw_order : L2.Binds K d_Llaw_order ["_law_deck_here", "_law_n"] []
  f_Llaw_throw : Addr
  d_Llaw_throw : FuncData
  F_Llaw_throw : Fun K "_law_throw" "_law_throw" s_Llaw_throw f_Llaw_throw d_Llaw_throw
  m_Llaw_throw : mg "_law_throw" = some (.ref f_Llaw_throw)
  b_Llaw_throw : L2.Binds K d_Llaw_throw ["_law_deck_here", "_law_size_here"] []
  f_Llaw_size : Addr
  d_Llaw_size : FuncData
  F_Llaw_size : Fun K "_law_size" "_law_size" s_Llaw_size f_Llaw_size d_Llaw_size
  m_Llaw_size : mg "_law_size" = some (.ref f_Llaw_size)
  b_Llaw_size : L2.Binds K d_Llaw_size ["_law_throw_here"] []
  f_Llaw_after : Addr
  d_Llaw_after : FuncData
  F_Llaw_after : Fun K "_law_after" "_law_after" s_Llaw_after f_Llaw_after d_Llaw_after
  m_Llaw_after : mg "_law_after" = some (.ref f_Llaw_after)
  b_Llaw_after : L2.Binds K d_Llaw_after ["_law_throw_here", "_law_cards_here"] []
  f_Llaw_laid : Addr
  d_Llaw_laid : FuncData
  F_Llaw_laid : Fun K "_law_laid" "_law_laid" s_Llaw_laid f_Llaw_laid d_Llaw_laid
  m_Llaw_laid : mg "_law_laid" = some (.ref f_Llaw_laid)
  b_Llaw_laid : L2.Binds K d_Llaw_laid ["_law_cards_here", "_law_order_here"] []
  f_Llaw_way : Addr
  d_Llaw_way : FuncData
  F_Llaw_way : Fun K "_law_way" "_law_way" s_Llaw_way f_Llaw_way d_Llaw_way
  m_Llaw_way : mg "_law_way" = some (.ref f_Llaw_way)
  b_Llaw_way : L2.Binds K d_Llaw_way ["_law_throw_here", "_law_a", "_law_b"] []
  f_Llaw_is_after_right : Addr
  d_Llaw_is_after_right : FuncData
  F_Llaw_is_after_right : Fun K "_law_is_after_right" "_law_is_after_right" s_Llaw_is_after_right f_Llaw_is_after_right d_Llaw_is_after_right
  m_Llaw_is_after_right : mg "_law_is_after_right" = some (.ref f_Llaw_is_after_right)
  b_Llaw_is_after_right : L2.Binds K d_Llaw_is_after_right ["_law_throw_here", "_law_cards_here"] []
  f_Llaw_are_twos_right : Addr
  d_Llaw_are_twos_right : FuncData
  F_Llaw_are_twos_right : Fun K "_law_are_twos_right" "_law_are_twos_right" s_Llaw_are_twos_right f_Llaw_are_twos_right d_Llaw_are_twos_right
  m_Llaw_are_twos_right : mg "_law_are_twos_right" = some (.ref f_Llaw_are_twos_right)
  b_Llaw_are_twos_right : L2.Binds K d_Llaw_are_twos_right ["_law_deck_here", "_law_throw_here", "_law_cards_here"] []
  f_Llaw_are_parts_right : Addr
  d_Llaw_are_parts_right : FuncData
  F_Llaw_are_parts_right : Fun K "_law_are_parts_right" "_law_are_parts_right" s_Llaw_are_parts_right f_Llaw_are_parts_right d_Llaw_are_parts_right
  m_Llaw_are_parts_right : mg "_law_are_parts_right" = some (.ref f_Llaw_are_parts_right)
  b_Llaw_are_parts_right : L2.Binds K d_Llaw_are_parts_right ["_law_deck_here", "_law_throw_here", "_law_cards_here"] []
  f_Llaw_are_plain_right : Addr
  d_Llaw_are_plain_right : FuncData
  F_Llaw_are_plain_right : Fun K "_law_are_plain_right" "_law_are_plain_right" s_Llaw_are_plain_right f_Llaw_are_plain_right d_Llaw_are_plain_right
  m_Llaw_are_plain_right : mg "_law_are_plain_right" = some (.ref f_Llaw_are_plain_right)
  b_Llaw_are_plain_right : L2.Binds K d_Llaw_are_plain_right ["_law_throw_here", "_law_cards_here"] []
  f_law : Addr
  d_law : FuncData
  F_law : Fun K "law" "law" s_law f_law d_law
  m_law : mg "law" = some (.ref f_law)
  b_law : L2.Binds K d_law ["_law_script"] []
  k_deck_after_deck_throw : ∀ (s : Shared) (ws : List Value), (pickL [1, 0] ws).length = 2 → BindsTo s d_deck_after ⟨[], List.zip ["deck", "throw"] ws⟩ (List.zip ["throw", "deck"] (pickL [1, 0] ws))
  k_order_after_deck_throw : ∀ (s : Shared) (ws : List Value), (pickL [1, 0] ws).length = 2 → BindsTo s d_order_after ⟨[], List.zip ["deck", "throw"] ws⟩ (List.zip ["throw", "deck"] (pickL [1, 0] ws))
  n_all : mg "all" = none
  n_bool : mg "bool" = none
  n_dict : mg "dict" = none
  n_enumerate : mg "enumerate" = none
  n_int : mg "int" = none
  n_isinstance : mg "isinstance" = none
  n_len : mg "len" = none
  n_list : mg "list" = none
  n_max : mg "max" = none
  n_range : mg "range" = none
  n_repr : mg "repr" = none
  n_sorted : mg "sorted" = none
  n_sum : mg "sum" = none
  n_tuple : mg "tuple" = none
  n_zip : mg "zip" = none
  t_MOST_KINDS : Tok
  c_MOST_KINDS : mg "MOST_KINDS" = some (.int (8) t_MOST_KINDS)
  t_MOST_CARDS : Tok
  c_MOST_CARDS : mg "MOST_CARDS" = some (.int (60) t_MOST_CARDS)
  t_KEPT : Tok
  c_KEPT : mg "KEPT" = some (.int (1) t_KEPT)
  t_TURNED : Tok
  c_TURNED : mg "TURNED" = some (.int (-1) t_TURNED)
  tc_are_kinds : Addr
  tp_are_kinds : Addr
  th_are_kinds : d_are_kinds.code = .ref tc_are_kinds
  tm_are_kinds : tp_are_kinds ∈ T
  tb_are_kinds : GxR.TabB base mg tc_are_kinds tp_are_kinds
  tc_is_deck : Addr
  tp_is_deck : Addr
  th_is_deck : d_is_deck.code = .ref tc_is_deck
  tm_is_deck : tp_is_deck ∈ T
  tb_is_deck : GxR.TabB base mg tc_is_deck tp_is_deck
  tc_is_order : Addr
  tp_is_order : Addr
  th_is_order : d_is_order.code = .ref tc_is_order
  tm_is_order : tp_is_order ∈ T
  tb_is_order : GxR.TabB base mg tc_is_order tp_is_order
  tc_is_throw : Addr
  tp_is_throw : Addr
  th_is_throw : d_is_throw.code = .ref tc_is_throw
  tm_is_throw : tp_is_throw ∈ T
  tb_is_throw : GxR.TabB base mg tc_is_throw tp_is_throw
section
variable {P : Program} {w : World} {K : PySem.W.Frag} {mg : Str → Option Value} {base : Heap} {T : List Addr}
theorem fn_is_integer (E : Facts P w K mg base T) : FnQ P w K mg base CX0 1 E.f_is_integer E.d_is_integer ["thing"] (spM K T 1 r_is_integer) := by
  have S := sc_is_integer
  have F := E.F_is_integer
  refine FnM (N := ["thing"]) (ps := ["thing"]) (T := T) (k := 0) (body := b_is_integer) F S fun cdv A below s H ex hco rq => ?_
  exact (by exact (pms_cons (by exact pms_ret ((by exact (pm_and ((by exact (pm_bi call_isi cd_isi (by rfl) (by exact E.n_isinstance) (by exact (pma_cons ((by exact pm_var 0)) (by exact (pma_cons ((by exact (pm_bltn (n := "int") (by rfl) (by exact E.n_int) (by decide +kernel)))) (by exact pma_nil)))))))) (by exact (pm_one ((by exact (pm_not ((by exact (pm_bi call_isi cd_isi (by rfl) (by exact E.n_isinstance) (by exact (pma_cons ((by exact pm_var 0)) (by exact (pma_cons ((by exact (pm_bltn (n := "bool") (by rfl) (by exact E.n_bool) (by decide +kernel)))) (by exact pma_nil))))))))))))))))) (by exact pms_nil)))
theorem fn_is_within (E : Facts P w K mg base T) : FnQ P w K mg base CX0 2 E.f_is_within E.d_is_within ["thing", "low", "high"] (spM K T 3 r_is_within) := by
  have S := sc_is_within
  have F := E.F_is_within
  refine FnM (N := ["thing", "low", "high"]) (ps := ["thing", "low", "high"]) (T := T) (k := 1) (body := b_is_within) F S fun cdv A below s H ex hco rq => ?_
  exact (by exact (pms_cons (by exact pms_ret ((by exact (pm_and ((by exact (pm_call (k := 1) (ps := ["thing"]) (by exact (fn_is_integer E).up (by decide)) (by exact rq) (by rfl) (by exact E.m_is_integer) (by exact E.F_is_integer.kp) (by exact E.b_is_integer) (by exact (pma_cons ((by exact pm_var 0)) (by exact pma_nil)))))) (by exact (pm_one ((by exact (pm_chain (by first | rfl | decide) op_le od_le op_le od_le ((by exact pm_var 1)) ((by exact pm_var 0)) ((by exact pm_var 2))))))))))) (by exact pms_nil)))
theorem fn_is_size (E : Facts P w K mg base T) : FnQ P w K mg base CX0 3 E.f_is_size E.d_is_size ["thing"] (spM K T 1 r_is_size) := by
  have S := sc_is_size
  have F := E.F_is_size
  refine FnM (N := ["thing"]) (ps := ["thing"]) (T := T) (k := 2) (body := b_is_size) F S fun cdv A below s H ex hco rq => ?_
  exact (by exact (pms_cons (by exact pms_ret ((by exact (pm_call (k := 2) (ps := ["thing", "low", "high"]) (by exact (fn_is_within E).up (by decide)) (by exact rq) (by rfl) (by exact E.m_is_within) (by exact E.F_is_within.kp) (by exact E.b_is_within) (by exact (pma_cons ((by exact pm_var 0)) (by exact (pma_cons (pm_int) (by exact (pma_cons ((by exact (pm_glob (v := .int (8)) (by rfl) (by exact E.c_MOST_KINDS) (by exact ⟨_, rfl⟩) (by exact fun _ => .int _)))) (by exact pma_nil))))))))))) (by exact pms_nil)))
theorem fn_is_kind (E : Facts P w K mg base T) : FnQ P w K mg base CX0 3 E.f_is_kind E.d_is_kind ["size", "thing"] (spM K T 2 r_is_kind) := by
  have S := sc_is_kind
  have F := E.F_is_kind
  refine FnM (N := ["size", "thing"]) (ps := ["size", "thing"]) (T := T) (k := 2) (body := b_is_kind) F S fun cdv A below s H ex hco rq => ?_
  exact (by exact (pms_cons (by exact pms_ret ((by exact (pm_call (k := 2) (ps := ["thing", "low", "high"]) (by exact (fn_is_within E).up (by decide)) (by exact rq) (by rfl) (by exact E.m_is_within) (by exact E.F_is_within.kp) (by exact E.b_is_within) (by exact (pma_cons ((by exact pm_var 1)) (by exact (pma_cons (pm_int) (by exact (pma_cons ((by exact (pm_op op_sub od_sub ((by exact pm_var 0)) (pm_int)))) (by exact pma_nil))))))))))) (by exact pms_nil)))
theorem fn_are_kinds (E : Facts P w K mg base T) : FnQ P w K mg base CX0 5 E.f_are_kinds E.d_are_kinds ["size", "things"] (spM K T 2 r_are_kinds) := by
  have S := sc_are_kinds
  have F := E.F_are_kinds
  refine FnM (N := ["size", "things", "thing"]) (ps := ["size", "things"]) (T := T) (k := 4) (body := b_are_kinds) F S fun cdv A below s H ex hco rq => ?_
  have hP := E.tm_are_kinds
  have tb := E.tb_are_kinds
  have hcode := hco.symm.trans E.th_are_kinds
  exact (by exact (pms_cons (by exact pms_ret ((by exact (pm_all (k := 3) (own := [("thing", 2)]) (by exact rq) (by rfl) (by exact E.n_all) (by rfl) (by exact S.nd) (by exact tb) (by exact hP) (by exact hcode) (by exact blkOk_by (by rfl)) (gscp_by (by decide +kernel)) ((by exact (pmi_seq ((by exact pm_var 1))))) ⟨fun _ _ _ _ _ _ rq2 => (by exact (pmg_name 2 (by exact S.nd))), fun _ _ _ _ _ _ rq2 => pmts_nil, fun _ _ _ _ _ _ rq2 => (by exact (pm_call (k := 3) (ps := ["size", "thing"]) (by exact (fn_is_kind E).up (by decide)) (by exact rq2) (by rfl) (by exact E.m_is_kind) (by exact E.F_is_kind.kp) (by exact E.b_is_kind) (by exact (pma_cons ((by exact pm_var 0)) (by exact (pma_cons ((by exact pm_var 2)) (by exact pma_nil)))))))⟩)))) (by exact pms_nil)))
theorem fn_is_ascending (E : Facts P w K mg base T) : FnQ P w K mg base CX0 1 E.f_is_ascending E.d_is_ascending ["things"] (spM K T 1 r_is_ascending) := by
  have S := sc_is_ascending
  have F := E.F_is_ascending
  refine FnM (N := ["things", "low", "high"]) (ps := ["things"]) (T := T) (k := 0) (body := b_is_ascending) F S fun cdv A below s H ex hco rq => ?_
  exact (by exact (pms_cons (by exact pms_ret ((by exact (pm_bi (cr_all (by rfl)) cd_all (by rfl) (by exact E.n_all) (by exact (pma_cons ((by exact (pm_ofL (by exact (pml_lc (own := [("low", 1), ("high", 2)]) (by rfl) (by exact S.nd) ((by exact (pmi_zip (by exact (pma_cons ((by exact pm_var 0)) (by exact (pma_cons ((by exact (pm_sl ((by exact pm_var 0)) (pmo_some (pm_int)) pmo_none))) (by exact pma_nil))))) (by rfl) (by exact E.n_zip)))) (by exact blkOk_by (by rfl)) ⟨fun _ _ _ _ _ => (by exact (pmg_tup (by rfl) (by exact (pmgs_cons (by exact (pmg_name 1 (by exact S.nd))) (by exact (pmgs_cons (by exact (pmg_name 2 (by exact S.nd))) (by exact pmgs_nil))))))), fun _ _ _ _ _ => pmts_nil⟩ (fun _ _ _ _ _ => (by exact (pm_cmp op_lt od_lt ((by exact pm_var 1)) ((by exact pm_var 2)))))))))) (by exact pma_nil))))))) (by exact pms_nil)))
theorem fn_need_size (E : Facts P w K mg base T) : FnQ P w K mg base CX0 4 E.f_need_size E.d_need_size ["thing"] (spM K T 1 r_need_size) := by
  have S := sc_need_size
  have F := E.F_need_size
  refine FnM (N := ["thing"]) (ps := ["thing"]) (T := T) (k := 3) (body := b_need_size) F S fun cdv A below s H ex hco rq => ?_
  exact (by exact (pms_cons (by exact pms_if ((by exact (pmt_not ((by exact (pmt_val ((by exact (pm_call (k := 3) (ps := ["thing"]) (by exact (fn_is_size E).up (by decide)) (by exact rq) (by rfl) (by exact E.m_is_size) (by exact E.F_is_size.kp) (by exact E.b_is_size) (by exact (pma_cons ((by exact pm_var 0)) (by exact pma_nil)))))))))))) (by exact (pms_cons (by exact pms_never) (by exact pms_nil))) pms_nil) (by exact pms_nil)))
theorem fn_need_kind (E : Facts P w K mg base T) : FnQ P w K mg base CX0 4 E.f_need_kind E.d_need_kind ["size", "thing"] (spM K T 2 r_need_kind) := by
  have S := sc_need_kind
  have F := E.F_need_kind
  refine FnM (N := ["size", "thing"]) (ps := ["size", "thing"]) (T := T) (k := 3) (body := b_need_kind) F S fun cdv A below s H ex hco rq => ?_
  exact (by exact (pms_cons (by exact pms_if ((by exact (pmt_not ((by exact (pmt_val ((by exact (pm_call (k := 3) (ps := ["size", "thing"]) (by exact (fn_is_kind E).up (by decide)) (by exact rq) (by rfl) (by exact E.m_is_kind) (by exact E.F_is_kind.kp) (by exact E.b_is_kind) (by exact (pma_cons ((by exact pm_var 0)) (by exact (pma_cons ((by exact pm_var 1)) (by exact pma_nil)))))))))))))) (by exact (pms_cons (by exact pms_never) (by exact pms_nil))) pms_nil) (by exact pms_nil)))
theorem fn_need_number (E : Facts P w K mg base T) : FnQ P w K mg base CX0 2 E.f_need_number E.d_need_number ["thing"] (spM K T 1 r_need_number) := by
  have S := sc_need_number
  have F := E.F_need_number
  refine FnM (N := ["thing"]) (ps := ["thing"]) (T := T) (k := 1) (body := b_need_number) F S fun cdv A below s H ex hco rq => ?_
  exact (by exact (pms_cons (by exact pms_if ((by exact (PMW.pmt (by exact (pmw_or ((by exact (pmt_not ((by exact (pmt_val ((by exact (pm_call (k := 1) (ps := ["thing"]) (by exact (fn_is_integer E).up (by decide)) (by exact rq) (by rfl) (by exact E.m_is_integer) (by exact E.F_is_integer.kp) (by exact E.b_is_integer) (by exact (pma_cons ((by exact pm_var 0)) (by exact pma_nil)))))))))))) (by exact (pmw_or1 ((by exact (pmt_cmp op_lt od_lt ((by exact pm_var 0)) (pm_int))))))))))) (by exact (pms_cons (by exact pms_never) (by exact pms_nil))) pms_nil) (by exact pms_nil)))
theorem fn_is_deck (E : Facts P w K mg base T) : FnQ P w K mg base CX0 5 E.f_is_deck E.d_is_deck ["size", "thing"] (spM K T 2 r_is_deck) := by
  have S := sc_is_deck
  have F := E.F_is_deck
  refine FnM (N := ["size", "thing", "card"]) (ps := ["size", "thing"]) (T := T) (k := 4) (body := b_is_deck) F S fun cdv A below s H ex hco rq => ?_
  have hP := E.tm_is_deck
  have tb := E.tb_is_deck
  have hcode := hco.symm.trans E.th_is_deck
  exact (by exact (pms_cons (by exact pms_drop ((by exact (pm_call (k := 4) (ps := ["thing"]) (by exact (fn_need_size E).up (by decide)) (by exact rq) (by rfl) (by exact E.m_need_size) (by exact E.F_need_size.kp) (by exact E.b_need_size) (by exact (pma_cons ((by exact pm_var 0)) (by exact pma_nil))))))) (by exact (pms_cons (by exact pms_if ((by exact (PMW.pmt (by exact (pmw_or ((by exact (pmt_not ((by exact (pmt_val ((by exact (pm_bi call_isi cd_isi (by rfl) (by exact E.n_isinstance) (by exact (pma_cons ((by exact pm_var 1)) (by exact (pma_cons ((by exact (pm_bltn (n := "tuple") (by rfl) (by exact E.n_tuple) (by decide +kernel)))) (by exact pma_nil)))))))))))))) (by exact (pmw_or1 ((by exact (pmt_cmp op_gt od_gt ((by exact (pm_bi call_len cd_len (by rfl) (by exact E.n_len) (by exact (pma_cons ((by exact pm_var 1)) (by exact pma_nil)))))) ((by exact (pm_glob (v := .int (60)) (by rfl) (by exact E.c_MOST_CARDS) (by exact ⟨_, rfl⟩) (by exact fun _ => .int _)))))))))))))) (by exact (pms_cons (by exact pms_ret (pm_bl)) (by exact pms_nil))) pms_nil) (by exact (pms_cons (by exact pms_ret ((by exact (pm_all (k := 3) (own := [("card", 2)]) (by exact rq) (by rfl) (by exact E.n_all) (by rfl) (by exact S.nd) (by exact tb) (by exact hP) (by exact hcode) (by exact blkOk_by (by rfl)) (gscp_by (by decide +kernel)) ((by exact (pmi_seq ((by exact pm_var 1))))) ⟨fun _ _ _ _ _ _ rq2 => (by exact (pmg_name 2 (by exact S.nd))), fun _ _ _ _ _ _ rq2 => pmts_nil, fun _ _ _ _ _ _ rq2 => (by exact (pm_call (k := 3) (ps := ["size", "thing"]) (by exact (fn_is_kind E).up (by decide)) (by exact rq2) (by rfl) (by exact E.m_is_kind) (by exact E.F_is_kind.kp) (by exact E.b_is_kind) (by exact (pma_cons ((by exact pm_var 0)) (by exact (pma_cons ((by exact pm_var 2)) (by exact pma_nil)))))))⟩)))) (by exact pms_nil)))))))
theorem fn_is_order (E : Facts P w K mg base T) : FnQ P w K mg base CX0 3 E.f_is_order E.d_is_order ["n", "thing"] (spM K T 2 r_is_order) := by
  have S := sc_is_order
  have F := E.F_is_order
  refine FnM (N := ["n", "thing", "card"]) (ps := ["n", "thing"]) (T := T) (k := 2) (body := b_is_order) F S fun cdv A below s H ex hco rq => ?_
  have hP := E.tm_is_order
  have tb := E.tb_is_order
  have hcode := hco.symm.trans E.th_is_order
  exact (by exact (pms_cons (by exact pms_drop ((by exact (pm_call (k := 2) (ps := ["thing"]) (by exact (fn_need_number E).up (by decide)) (by exact rq) (by rfl) (by exact E.m_need_number) (by exact E.F_need_number.kp) (by exact E.b_need_number) (by exact (pma_cons ((by exact pm_var 0)) (by exact pma_nil))))))) (by exact (pms_cons (by exact pms_if ((by exact (PMW.pmt (by exact (pmw_or ((by exact (pmt_not ((by exact (pmt_val ((by exact (pm_bi call_isi cd_isi (by rfl) (by exact E.n_isinstance) (by exact (pma_cons ((by exact pm_var 1)) (by exact (pma_cons ((by exact (pm_bltn (n := "tuple") (by rfl) (by exact E.n_tuple) (by decide +kernel)))) (by exact pma_nil)))))))))))))) (by exact (pmw_or1 ((by exact (pmt_cmp (by exact op_neA rq.room.units) od_ne ((by exact (pm_bi call_len cd_len (by rfl) (by exact E.n_len) (by exact (pma_cons ((by exact pm_var 1)) (by exact pma_nil)))))) ((by exact pm_var 0)))))))))))) (by exact (pms_cons (by exact pms_ret (pm_bl)) (by exact pms_nil))) pms_nil) (by exact (pms_cons (by exact pms_ret ((by exact (pm_and ((by exact (pm_all (k := 1) (own := [("card", 2)]) (by exact rq) (by rfl) (by exact E.n_all) (by rfl) (by exact S.nd) (by exact tb) (by exact hP) (by exact hcode) (by exact blkOk_by (by rfl)) (gscp_by (by decide +kernel)) ((by exact (pmi_seq ((by exact pm_var 1))))) ⟨fun _ _ _ _ _ _ rq2 => (by exact (pmg_name 2 (by exact S.nd))), fun _ _ _ _ _ _ rq2 => pmts_nil, fun _ _ _ _ _ _ rq2 => (by exact (pm_call (k := 1) (ps := ["thing"]) (by exact (fn_is_integer E).up (by decide)) (by exact rq2) (by rfl) (by exact E.m_is_integer) (by exact E.F_is_integer.kp) (by exact E.b_is_integer) (by exact (pma_cons ((by exact pm_var 2)) (by exact pma_nil)))))⟩))) (by exact (pm_one ((by exact (pm_cmp (by exact op_eqA rq.room.units) od_eq ((by exact (pm_ofL (by exact (pml_bi (CallR.or cr_sortedI cr_sortTI) cl_sort (by rfl) (by exact E.n_sorted) (by exact (pma_cons ((by exact pm_var 1)) (by exact pma_nil)))))))) ((by exact (pm_ofL (by exact (pml_listRg (by rfl) ((by exact pm_var 0)) (by rfl) (by exact E.n_list) (by rfl) (by exact E.n_range))))))))))))))) (by exact pms_nil)))))))
theorem fn_need_deck (E : Facts P w K mg base T) : FnQ P w K mg base CX0 6 E.f_need_deck E.d_need_deck ["size", "thing"] (spM K T 2 r_need_deck) := by
  have S := sc_need_deck
  have F := E.F_need_deck
  refine FnM (N := ["size", "thing"]) (ps := ["size", "thing"]) (T := T) (k := 5) (body := b_need_deck) F S fun cdv A below s H ex hco rq => ?_
  exact (by exact (pms_cons (by exact pms_if ((by exact (pmt_not ((by exact (pmt_val ((by exact (pm_call (k := 5) (ps := ["size", "thing"]) (by exact (fn_is_deck E).up (by decide)) (by exact rq) (by rfl) (by exact E.m_is_deck) (by exact E.F_is_deck.kp) (by exact E.b_is_deck) (by exact (pma_cons ((by exact pm_var 0)) (by exact (pma_cons ((by exact pm_var 1)) (by exact pma_nil)))))))))))))) (by exact (pms_cons (by exact pms_never) (by exact pms_nil))) pms_nil) (by exact pms_nil)))
theorem fn_need_order (E : Facts P w K mg base T) : FnQ P w K mg base CX0 4 E.f_need_order E.d_need_order ["n", "thing"] (spM K T 2 r_need_order) := by
  have S := sc_need_order
  have F := E.F_need_order
  refine FnM (N := ["n", "thing"]) (ps := ["n", "thing"]) (T := T) (k := 3) (body := b_need_order) F S fun cdv A below s H ex hco rq => ?_
  exact (by exact (pms_cons (by exact pms_if ((by exact (pmt_not ((by exact (pmt_val ((by exact (pm_call (k := 3) (ps := ["n", "thing"]) (by exact (fn_is_order E).up (by decide)) (by exact rq) (by rfl) (by exact E.m_is_order) (by exact E.F_is_order.kp) (by exact E.b_is_order) (by exact (pma_cons ((by exact pm_var 0)) (by exact (pma_cons ((by exact pm_var 1)) (by exact pma_nil)))))))))))))) (by exact (pms_cons (by exact pms_never) (by exact pms_nil))) pms_nil) (by exact pms_nil)))
theorem fn_need_some_order (E : Facts P w K mg base T) : FnQ P w K mg base CX0 5 E.f_need_some_order E.d_need_some_order ["thing"] (spM K T 1 r_need_some_order) := by
  have S := sc_need_some_order
  have F := E.F_need_some_order
  refine FnM (N := ["thing"]) (ps := ["thing"]) (T := T) (k := 4) (body := b_need_some_order) F S fun cdv A below s H ex hco rq => ?_
  exact (by exact (pms_cons (by exact pms_if ((by exact (PMW.pmt (by exact (pmw_or ((by exact (pmt_not ((by exact (pmt_val ((by exact (pm_bi call_isi cd_isi (by rfl) (by exact E.n_isinstance) (by exact (pma_cons ((by exact pm_var 0)) (by exact (pma_cons ((by exact (pm_bltn (n := "tuple") (by rfl) (by exact E.n_tuple) (by decide +kernel)))) (by exact pma_nil)))))))))))))) (by exact (pmw_or1 ((by exact (pmt_cmp op_gt od_gt ((by exact (pm_bi call_len cd_len (by rfl) (by exact E.n_len) (by exact (pma_cons ((by exact pm_var 0)) (by exact pma_nil)))))) ((by exact (pm_glob (v := .int (60)) (by rfl) (by exact E.c_MOST_CARDS) (by exact ⟨_, rfl⟩) (by exact fun _ => .int _)))))))))))))) (by exact (pms_cons (by exact pms_never) (by exact pms_nil))) pms_nil) (by exact (pms_cons (by exact pms_drop ((by exact (pm_call (k := 4) (ps := ["n", "thing"]) (by exact (fn_need_order E).up (by decide)) (by exact rq) (by rfl) (by exact E.m_need_order) (by exact E.F_need_order.kp) (by exact E.b_need_order) (by exact (pma_cons ((by exact (pm_bi call_len cd_len (by rfl) (by exact E.n_len) (by exact (pma_cons ((by exact pm_var 0)) (by exact pma_nil)))))) (by exact (pma_cons ((by exact pm_var 0)) (by exact pma_nil))))))))) (by exact pms_nil)))))
theorem fn_laid (E : Facts P w K mg base T) : FnQ P w K mg base CX0 7 E.f_laid E.d_laid ["deck", "order"] (spM K T 2 r_laid) := by
  have S := sc_laid
  have F := E.F_laid
  refine FnM (N := ["deck", "order", "card"]) (ps := ["deck", "order"]) (T := T) (k := 6) (body := b_laid) F S fun cdv A below s H ex hco rq => ?_
  exact (by exact (pms_cons (by exact pms_drop ((by exact (pm_call (k := 6) (ps := ["size", "thing"]) (by exact (fn_need_deck E).up (by decide)) (by exact rq) (by rfl) (by exact E.m_need_deck) (by exact E.F_need_deck.kp) (by exact E.b_need_deck) (by exact (pma_cons ((by exact (pm_glob (v := .int (8)) (by rfl) (by exact E.c_MOST_KINDS) (by exact ⟨_, rfl⟩) (by exact fun _ => .int _)))) (by exact (pma_cons ((by exact pm_var 0)) (by exact pma_nil))))))))) (by exact (pms_cons (by exact pms_drop ((by exact (pm_call (k := 6) (ps := ["n", "thing"]) (by exact (fn_need_order E).up (by decide)) (by exact rq) (by rfl) (by exact E.m_need_order) (by exact E.F_need_order.kp) (by exact E.b_need_order) (by exact (pma_cons ((by exact (pm_bi call_len cd_len (by rfl) (by exact E.n_len) (by exact (pma_cons ((by exact pm_var 0)) (by exact pma_nil)))))) (by exact (pma_cons ((by exact pm_var 1)) (by exact pma_nil))))))))) (by exact (pms_cons (by exact pms_ret ((by exact (pm_ty cr_tupF cd_tup (by rfl) (by exact E.n_tuple) (by exact (pma_cons ((by exact (pm_ofL (by exact (pml_lc (own := [("card", 2)]) (by rfl) (by exact S.nd) ((by exact (pmi_seq ((by exact pm_var 1))))) (by exact blkOk_by (by rfl)) ⟨fun _ _ _ _ _ => (by exact (pmg_name 2 (by exact S.nd))), fun _ _ _ _ _ => pmts_nil⟩ (fun _ _ _ _ _ => (by exact (pm_ix ((by exact pm_var 0)) ((by exact pm_var 2)))))))))) (by exact pma_nil))))))) (by exact pms_nil)))))))
theorem fn_opposite (E : Facts P w K mg base T) : FnQ P w K mg base CX0 6 E.f_opposite E.d_opposite ["order"] (spM K T 1 r_opposite) := by
  have S := sc_opposite
  have F := E.F_opposite
  refine FnM (N := ["order"]) (ps := ["order"]) (T := T) (k := 5) (body := b_opposite) F S fun cdv A below s H ex hco rq => ?_
  exact (by exact (pms_cons (by exact pms_drop ((by exact (pm_call (k := 5) (ps := ["thing"]) (by exact (fn_need_some_order E).up (by decide)) (by exact rq) (by rfl) (by exact E.m_need_some_order) (by exact E.F_need_some_order.kp) (by exact E.b_need_some_order) (by exact (pma_cons ((by exact pm_var 0)) (by exact pma_nil))))))) (by exact (pms_cons (by exact pms_ret ((by exact (pm_turn ((by exact pm_var 0)))))) (by exact pms_nil)))))
theorem fn_counts_of (E : Facts P w K mg base T) : FnQ P w K mg base CX0 7 E.f_counts_of E.d_counts_of ["size", "deck"] (spM K T 2 r_counts_of) := by
  have S := sc_counts_of
  have F := E.F_counts_of
  refine FnM (N := ["size", "deck", "kind"]) (ps := ["size", "deck"]) (T := T) (k := 6) (body := b_counts_of) F S fun cdv A below s H ex hco rq => ?_
  exact (by exact (pms_cons (by exact pms_drop ((by exact (pm_call (k := 6) (ps := ["size", "thing"]) (by exact (fn_need_deck E).up (by decide)) (by exact rq) (by rfl) (by exact E.m_need_deck) (by exact E.F_need_deck.kp) (by exact E.b_need_deck) (by exact (pma_cons ((by exact pm_var 0)) (by exact (pma_cons ((by exact pm_var 1)) (by exact pma_nil))))))))) (by exact (pms_cons (by exact pms_ret ((by exact (pm_ty cr_tupF cd_tup (by rfl) (by exact E.n_tuple) (by exact (pma_cons ((by exact (pm_ofL (by exact (pml_lc (own := [("kind", 2)]) (by rfl) (by exact S.nd) ((by exact (pmi_range1 (by exact (pma_cons ((by exact pm_var 0)) (by exact pma_nil))) (by rfl) (by exact E.n_range)))) (by exact blkOk_by (by rfl)) ⟨fun _ _ _ _ _ => (by exact (pmg_name 2 (by exact S.nd))), fun _ _ _ _ _ => pmts_nil⟩ (fun _ _ _ _ _ => (by exact (pm_count ((by exact pm_var 1)) (by exact (pma_cons ((by exact pm_var 2)) (by exact pma_nil))))))))))) (by exact pma_nil))))))) (by exact pms_nil)))))
theorem fn_is_lot (E : Facts P w K mg base T) : FnQ P w K mg base CX0 6 E.f_is_lot E.d_is_lot ["thing"] (spM K T 1 r_is_lot) := by
  have S := sc_is_lot
  have F := E.F_is_lot
  refine FnM (N := ["thing"]) (ps := ["thing"]) (T := T) (k := 5) (body := b_is_lot) F S fun cdv A below s H ex hco rq => ?_
  exact (by exact (pms_cons (by exact pms_if ((by exact (PMW.pmt (by exact (pmw_or ((by exact (pmt_not ((by exact (pmt_val ((by exact (pm_bi call_isi cd_isi (by rfl) (by exact E.n_isinstance) (by exact (pma_cons ((by exact pm_var 0)) (by exact (pma_cons ((by exact (pm_bltn (n := "tuple") (by rfl) (by exact E.n_tuple) (by decide +kernel)))) (by exact pma_nil)))))))))))))) (by exact (pmw_or1 ((by exact (pmt_cmp (by exact op_eqA rq.room.units) od_eq ((by exact pm_var 0)) ((by exact (pm_tup (pma_nil)))))))))))))) (by exact (pms_cons (by exact pms_ret (pm_bl)) (by exact pms_nil))) pms_nil) (by exact (pms_cons (by exact pms_ret ((by exact (pm_and ((by exact (pm_call (k := 5) (ps := ["size", "things"]) (by exact (fn_are_kinds E).up (by decide)) (by exact rq) (by rfl) (by exact E.m_are_kinds) (by exact E.F_are_kinds.kp) (by exact E.b_are_kinds) (by exact (pma_cons ((by exact (pm_glob (v := .int (8)) (by rfl) (by exact E.c_MOST_KINDS) (by exact ⟨_, rfl⟩) (by exact fun _ => .int _)))) (by exact (pma_cons ((by exact pm_var 0)) (by exact pma_nil)))))))) (by exact (pm_one ((by exact (pm_call (k := 5) (ps := ["things"]) (by exact (fn_is_ascending E).up (by decide)) (by exact rq) (by rfl) (by exact E.m_is_ascending) (by exact E.F_is_ascending.kp) (by exact E.b_is_ascending) (by exact (pma_cons ((by exact pm_var 0)) (by exact pma_nil)))))))))))) (by exact pms_nil)))))
theorem fn_is_signed_lot (E : Facts P w K mg base T) : FnQ P w K mg base CX0 7 E.f_is_signed_lot E.d_is_signed_lot ["thing"] (spM K T 1 r_is_signed_lot) := by
  have S := sc_is_signed_lot
  have F := E.F_is_signed_lot
  refine FnM (N := ["thing", "lot", "sign"]) (ps := ["thing"]) (T := T) (k := 6) (body := b_is_signed_lot) F S fun cdv A below s H ex hco rq => ?_
  exact (by exact (pms_cons (by exact pms_if ((by exact (PMW.pmt (by exact (pmw_or ((by exact (pmt_not ((by exact (pmt_val ((by exact (pm_bi call_isi cd_isi (by rfl) (by exact E.n_isinstance) (by exact (pma_cons ((by exact pm_var 0)) (by exact (pma_cons ((by exact (pm_bltn (n := "tuple") (by rfl) (by exact E.n_tuple) (by decide +kernel)))) (by exact pma_nil)))))))))))))) (by exact (pmw_or1 ((by exact (pmt_cmp (by exact op_neA rq.room.units) od_ne ((by exact (pm_bi call_len cd_len (by rfl) (by exact E.n_len) (by exact (pma_cons ((by exact pm_var 0)) (by exact pma_nil)))))) (pm_int))))))))))) (by exact (pms_cons (by exact pms_ret (pm_bl)) (by exact pms_nil))) pms_nil) (by exact (pms_cons (by exact pms_asg ((by exact pm_var 0)) (by exact (pmg_tup (by rfl) (by exact (pmgs_cons (by exact (pmg_name 1 (by exact S.nd))) (by exact (pmgs_cons (by exact (pmg_name 2 (by exact S.nd))) (by exact pmgs_nil)))))))) (by exact (pms_cons (by exact pms_ret ((by exact (pm_and ((by exact (pm_call (k := 6) (ps := ["thing"]) (by exact (fn_is_lot E).up (by decide)) (by exact rq) (by rfl) (by exact E.m_is_lot) (by exact E.F_is_lot.kp) (by exact E.b_is_lot) (by exact (pma_cons ((by exact pm_var 1)) (by exact pma_nil)))))) (by exact (pm_and ((by exact (pm_call (k := 6) (ps := ["thing"]) (by exact (fn_is_integer E).up (by decide)) (by exact rq) (by rfl) (by exact E.m_is_integer) (by exact E.F_is_integer.kp) (by exact E.b_is_integer) (by exact (pma_cons ((by exact pm_var 2)) (by exact pma_nil)))))) (by exact (pm_one ((by exact (pm_cmp op_in_seq od_in ((by exact pm_var 2)) ((by exact (pm_tup ((by exact (pma_cons ((by exact (pm_glob (v := .int (1)) (by rfl) (by exact E.c_KEPT) (by exact ⟨_, rfl⟩) (by exact fun _ => .int _)))) (by exact (pma_cons ((by exact (pm_glob (v := .int (-1)) (by rfl) (by exact E.c_TURNED) (by exact ⟨_, rfl⟩) (by exact fun _ => .int _)))) (by exact pma_nil)))))))))))))))))))) (by exact pms_nil)))))))
theorem fn_is_throw (E : Facts P w K mg base T) : FnQ P w K mg base CX0 9 E.f_is_throw E.d_is_throw ["thing"] (spM K T 1 r_is_throw) := by
  have S := sc_is_throw
  have F := E.F_is_throw
  refine FnM (N := ["thing", "kinds", "kind", "lot", "_", "pair"]) (ps := ["thing"]) (T := T) (k := 8) (body := b_is_throw) F S fun cdv A below s H ex hco rq => ?_
  have hP := E.tm_is_throw
  have tb := E.tb_is_throw
  have hcode := hco.symm.trans E.th_is_throw
  exact (by exact (pms_cons (by exact pms_if ((by exact (PMW.pmt (by exact (pmw_or ((by exact (pmt_not ((by exact (pmt_val ((by exact (pm_bi call_isi cd_isi (by rfl) (by exact E.n_isinstance) (by exact (pma_cons ((by exact pm_var 0)) (by exact (pma_cons ((by exact (pm_bltn (n := "tuple") (by rfl) (by exact E.n_tuple) (by decide +kernel)))) (by exact pma_nil)))))))))))))) (by exact (pmw_or1 ((by exact (pmt_cmp (by exact op_eqA rq.room.units) od_eq ((by exact pm_var 0)) ((by exact (pm_tup (pma_nil)))))))))))))) (by exact (pms_cons (by exact pms_ret (pm_bl)) (by exact pms_nil))) pms_nil) (by exact (pms_cons (by exact pms_if ((by exact (pmt_not ((by exact (pmt_val ((by exact (pm_all (k := 7) (own := [("pair", 5)]) (by exact rq) (by rfl) (by exact E.n_all) (by rfl) (by exact S.nd) (by exact tb) (by exact hP) (by exact hcode) (by exact blkOk_by (by rfl)) (gscp_by (by decide +kernel)) ((by exact (pmi_seq ((by exact pm_var 0))))) ⟨fun _ _ _ _ _ _ rq2 => (by exact (pmg_name 5 (by exact S.nd))), fun _ _ _ _ _ _ rq2 => pmts_nil, fun _ _ _ _ _ _ rq2 => (by exact (pm_call (k := 7) (ps := ["thing"]) (by exact (fn_is_signed_lot E).up (by decide)) (by exact rq2) (by rfl) (by exact E.m_is_signed_lot) (by exact E.F_is_signed_lot.kp) (by exact E.b_is_signed_lot) (by exact (pma_cons ((by exact pm_var 5)) (by exact pma_nil)))))⟩))))))))) (by exact (pms_cons (by exact pms_ret (pm_bl)) (by exact pms_nil))) pms_nil) (by exact (pms_cons (by exact pms_setLc2 (i := 1) (own := [("lot", 3), ("_", 4), ("kind", 2)]) (vs1 := [2]) (by rfl) (by exact S.nd) ((by exact (pmi_seq ((by exact pm_var 0))))) (by exact blkOk_by (by rfl)) ⟨fun _ _ _ _ _ => (by exact (pmg_tup (by rfl) (by exact (pmgs_cons (by exact (pmg_name 3 (by exact S.nd))) (by exact (pmgs_cons (by exact (pmg_name 4 (by exact S.nd))) (by exact pmgs_nil))))))), fun _ _ _ _ _ => pmts_nil⟩ (fun _ _ _ _ _ => (by exact (pmi_seq ((by exact pm_var 3))))) ⟨fun _ _ _ _ _ => (by exact (pmg_name 2 (by exact S.nd))), fun _ _ _ _ _ => pmts_nil⟩ (fun _ _ _ _ _ => (by exact pm_var 2)) (sw_true rfl rfl rfl (by decide +kernel))) (by exact (pmss_frz 1 (by exact (pms_cons (by exact pms_ret ((by exact (pm_cmp (by exact op_eqA rq.room.units) od_eq ((by exact (pm_ofL (by exact (pml_bi (CallR.or cr_sortedI cr_sortTI) cl_sort (by rfl) (by exact E.n_sorted) (by exact (pma_cons ((by exact pm_var 1)) (by exact pma_nil)))))))) ((by exact (pm_ofL (by exact (pml_listRg (by rfl) ((by exact (pm_bi call_len cd_len (by rfl) (by exact E.n_len) (by exact (pma_cons ((by exact pm_var 1)) (by exact pma_nil)))))) (by rfl) (by exact E.n_list) (by rfl) (by exact E.n_range)))))))))) (by exact pms_nil)))))))))))
theorem fn_need_throw (E : Facts P w K mg base T) : FnQ P w K mg base CX0 10 E.f_need_throw E.d_need_throw ["thing"] (spM K T 1 r_need_throw) := by
  have S := sc_need_throw
  have F := E.F_need_throw
  refine FnM (N := ["thing"]) (ps := ["thing"]) (T := T) (k := 9) (body := b_need_throw) F S fun cdv A below s H ex hco rq => ?_
  exact (by exact (pms_cons (by exact pms_if ((by exact (pmt_not ((by exact (pmt_val ((by exact (pm_call (k := 9) (ps := ["thing"]) (by exact (fn_is_throw E).up (by decide)) (by exact rq) (by rfl) (by exact E.m_is_throw) (by exact E.F_is_throw.kp) (by exact E.b_is_throw) (by exact (pma_cons ((by exact pm_var 0)) (by exact pma_nil)))))))))))) (by exact (pms_cons (by exact pms_never) (by exact pms_nil))) pms_nil) (by exact pms_nil)))
theorem fn_size_of (E : Facts P w K mg base T) : FnQ P w K mg base CX0 11 E.f_size_of E.d_size_of ["throw"] (spM K T 1 r_size_of) := by
  have S := sc_size_of
  have F := E.F_size_of
  refine FnM (N := ["throw", "lot", "_"]) (ps := ["throw"]) (T := T) (k := 10) (body := b_size_of) F S fun cdv A below s H ex hco rq => ?_
  exact (by exact (pms_cons (by exact pms_drop ((by exact (pm_call (k := 10) (ps := ["thing"]) (by exact (fn_need_throw E).up (by decide)) (by exact rq) (by rfl) (by exact E.m_need_throw) (by exact E.F_need_throw.kp) (by exact E.b_need_throw) (by exact (pma_cons ((by exact pm_var 0)) (by exact pma_nil))))))) (by exact (pms_cons (by exact pms_ret ((by exact (pm_bi (cr_sum (by rfl)) cd_sum (by rfl) (by exact E.n_sum) (by exact (pma_cons ((by exact (pm_ofL (by exact (pml_lc (own := [("lot", 1), ("_", 2)]) (by rfl) (by exact S.nd) ((by exact (pmi_seq ((by exact pm_var 0))))) (by exact blkOk_by (by rfl)) ⟨fun _ _ _ _ _ => (by exact (pmg_tup (by rfl) (by exact (pmgs_cons (by exact (pmg_name 1 (by exact S.nd))) (by exact (pmgs_cons (by exact (pmg_name 2 (by exact S.nd))) (by exact pmgs_nil))))))), fun _ _ _ _ _ => pmts_nil⟩ (fun _ _ _ _ _ => (by exact (pm_bi call_len cd_len (by rfl) (by exact E.n_len) (by exact (pma_cons ((by exact pm_var 1)) (by exact pma_nil))))))))))) (by exact pma_nil))))))) (by exact pms_nil)))))
theorem fn_still (E : Facts P w K mg base T) : FnQ P w K mg base CX0 5 E.f_still E.d_still ["size"] (spM K T 1 r_still) := by
  have S := sc_still
  have F := E.F_still
  refine FnM (N := ["size"]) (ps := ["size"]) (T := T) (k := 4) (body := b_still) F S fun cdv A below s H ex hco rq => ?_
  exact (by exact (pms_cons (by exact pms_drop ((by exact (pm_call (k := 4) (ps := ["thing"]) (by exact (fn_need_size E).up (by decide)) (by exact rq) (by rfl) (by exact E.m_need_size) (by exact E.F_need_size.kp) (by exact E.b_need_size) (by exact (pma_cons ((by exact pm_var 0)) (by exact pma_nil))))))) (by exact (pms_cons (by exact pms_ret ((by exact (pm_tup ((by exact (pma_cons ((by exact (pm_tup ((by exact (pma_cons ((by exact (pm_tupRg (by rfl) ((by exact pm_var 0)) (by rfl) (by exact E.n_tuple) (by rfl) (by exact E.n_range)))) (by exact (pma_cons ((by exact (pm_glob (v := .int (1)) (by rfl) (by exact E.c_KEPT) (by exact ⟨_, rfl⟩) (by exact fun _ => .int _)))) (by exact pma_nil))))))))) (by exact pma_nil)))))))) (by exact pms_nil)))))
theorem fn_turning (E : Facts P w K mg base T) : FnQ P w K mg base CX0 5 E.f_turning E.d_turning ["size"] (spM K T 1 r_turning) := by
  have S := sc_turning
  have F := E.F_turning
  refine FnM (N := ["size"]) (ps := ["size"]) (T := T) (k := 4) (body := b_turning) F S fun cdv A below s H ex hco rq => ?_
  exact (by exact (pms_cons (by exact pms_drop ((by exact (pm_call (k := 4) (ps := ["thing"]) (by exact (fn_need_size E).up (by decide)) (by exact rq) (by rfl) (by exact E.m_need_size) (by exact E.F_need_size.kp) (by exact E.b_need_size) (by exact (pma_cons ((by exact pm_var 0)) (by exact pma_nil))))))) (by exact (pms_cons (by exact pms_ret ((by exact (pm_tup ((by exact (pma_cons ((by exact (pm_tup ((by exact (pma_cons ((by exact (pm_tupRg (by rfl) ((by exact pm_var 0)) (by rfl) (by exact E.n_tuple) (by rfl) (by exact E.n_range)))) (by exact (pma_cons ((by exact (pm_glob (v := .int (-1)) (by rfl) (by exact E.c_TURNED) (by exact ⟨_, rfl⟩) (by exact fun _ => .int _)))) (by exact pma_nil))))))))) (by exact pma_nil)))))))) (by exact pms_nil)))))
theorem fn_position_in (E : Facts P w K mg base T) : FnQ P w K mg base CX0 1 E.f_position_in E.d_position_in ["throw", "kind"] (spM K T 2 r_position_in) := by
  have S := sc_position_in
  have F := E.F_position_in
  refine FnM (N := ["throw", "kind", "at"]) (ps := ["throw", "kind"]) (T := T) (k := 0) (body := b_position_in) F S fun cdv A below s H ex hco rq => ?_
  exact (by exact (pms_cons (by exact pms_set 2 (pm_int) (by exact S.nd)) (by exact (pms_cons (by exact pms_while 100 (by exact PassesOwn.never) ((by exact (pmt_cmp op_notIn_seq od_in ((by exact pm_var 1)) ((by exact (pm_ix ((by exact (pm_ix ((by exact pm_var 0)) ((by exact pm_var 2))))) (pm_int))))))) (by exact (pms_cons (by exact pms_aug 2 ip_add (by exact ipd_i) (pm_int) (by exact S.nd)) (by exact pms_nil)))) (by exact (pms_cons (by exact pms_ret ((by exact pm_var 2))) (by exact pms_nil)))))))
theorem fn_way_of (E : Facts P w K mg base T) : FnQ P w K mg base CX0 12 E.f_way_of E.d_way_of ["throw", "a", "b"] (spM K T 3 r_way_of) := by
  have S := sc_way_of
  have F := E.F_way_of
  refine FnM (N := ["throw", "a", "b", "size", "at_a", "at_b"]) (ps := ["throw", "a", "b"]) (T := T) (k := 11) (body := b_way_of) F S fun cdv A below s H ex hco rq => ?_
  exact (by exact (pms_cons (by exact pms_set 3 ((by exact (pm_call (k := 11) (ps := ["throw"]) (by exact (fn_size_of E).up (by decide)) (by exact rq) (by rfl) (by exact E.m_size_of) (by exact E.F_size_of.kp) (by exact E.b_size_of) (by exact (pma_cons ((by exact pm_var 0)) (by exact pma_nil)))))) (by exact S.nd)) (by exact (pms_cons (by exact pms_drop ((by exact (pm_call (k := 11) (ps := ["size", "thing"]) (by exact (fn_need_kind E).up (by decide)) (by exact rq) (by rfl) (by exact E.m_need_kind) (by exact E.F_need_kind.kp) (by exact E.b_need_kind) (by exact (pma_cons ((by exact pm_var 3)) (by exact (pma_cons ((by exact pm_var 1)) (by exact pma_nil))))))))) (by exact (pms_cons (by exact pms_drop ((by exact (pm_call (k := 11) (ps := ["size", "thing"]) (by exact (fn_need_kind E).up (by decide)) (by exact rq) (by rfl) (by exact E.m_need_kind) (by exact E.F_need_kind.kp) (by exact E.b_need_kind) (by exact (pma_cons ((by exact pm_var 3)) (by exact (pma_cons ((by exact pm_var 2)) (by exact pma_nil))))))))) (by exact (pms_cons (by exact pms_set 4 ((by exact (pm_call (k := 11) (ps := ["throw", "kind"]) (by exact (fn_position_in E).up (by decide)) (by exact rq) (by rfl) (by exact E.m_position_in) (by exact E.F_position_in.kp) (by exact E.b_position_in) (by exact (pma_cons ((by exact pm_var 0)) (by exact (pma_cons ((by exact pm_var 1)) (by exact pma_nil)))))))) (by exact S.nd)) (by exact (pms_cons (by exact pms_set 5 ((by exact (pm_call (k := 11) (ps := ["throw", "kind"]) (by exact (fn_position_in E).up (by decide)) (by exact rq) (by rfl) (by exact E.m_position_in) (by exact E.F_position_in.kp) (by exact E.b_position_in) (by exact (pma_cons ((by exact pm_var 0)) (by exact (pma_cons ((by exact pm_var 2)) (by exact pma_nil)))))))) (by exact S.nd)) (by exact (pms_cons (by exact pms_if ((by exact (pmt_cmp op_lt od_lt ((by exact pm_var 4)) ((by exact pm_var 5))))) (by exact (pms_cons (by exact pms_ret (pm_str)) (by exact pms_nil))) pms_nil) (by exact (pms_cons (by exact pms_if ((by exact (pmt_cmp op_gt od_gt ((by exact pm_var 4)) ((by exact pm_var 5))))) (by exact (pms_cons (by exact pms_ret (pm_str)) (by exact pms_nil))) pms_nil) (by exact (pms_cons (by exact pms_ret ((by exact (pm_if ((by exact (pmt_cmp (by exact op_eqA rq.room.units) od_eq ((by exact (pm_ix ((by exact (pm_ix ((by exact pm_var 0)) ((by exact pm_var 4))))) (pm_int)))) ((by exact (pm_glob (v := .int (1)) (by rfl) (by exact E.c_KEPT) (by exact ⟨_, rfl⟩) (by exact fun _ => .int _))))))) (pm_str) (pm_str))))) (by exact pms_nil)))))))))))))))))
theorem fn_cards_of_lot (E : Facts P w K mg base T) : FnQ P w K mg base CX0 1 E.f_cards_of_lot E.d_cards_of_lot ["lot", "sign", "deck"] (spM K T 3 r_cards_of_lot) := by
  have S := sc_cards_of_lot
  have F := E.F_cards_of_lot
  refine FnM (N := ["lot", "sign", "deck", "cards", "card", "kind"]) (ps := ["lot", "sign", "deck"]) (T := T) (k := 0) (body := b_cards_of_lot) F S fun cdv A below s H ex hco rq => ?_
  exact (by exact (pms_cons (by exact pms_setLc (i := 3) (own := [("card", 4), ("kind", 5)]) (by rfl) (by exact S.nd) ((by exact (pmi_enum (by exact (pma_cons ((by exact pm_var 2)) (by exact pma_nil))) (by rfl) (by exact E.n_enumerate)))) (by exact blkOk_by (by rfl)) ⟨fun _ _ _ _ _ => (by exact (pmg_tup (by rfl) (by exact (pmgs_cons (by exact (pmg_name 4 (by exact S.nd))) (by exact (pmgs_cons (by exact (pmg_name 5 (by exact S.nd))) (by exact pmgs_nil))))))), fun _ _ _ _ _ => (by exact (pmts_one ((by exact (pmt_cmp op_in_seq od_in ((by exact pm_var 5)) ((by exact pm_var 0)))))))⟩ (fun _ _ _ _ _ => (by exact pm_var 4)) (sw_true rfl rfl rfl (by decide +kernel))) (by exact (pmss_frz 3 (by exact (pms_cons (by exact pms_ret ((by exact (pm_if ((by exact (pmt_cmp (by exact op_eqA rq.room.units) od_eq ((by exact pm_var 1)) ((by exact (pm_glob (v := .int (1)) (by rfl) (by exact E.c_KEPT) (by exact ⟨_, rfl⟩) (by exact fun _ => .int _))))))) ((by exact pm_var 3)) ((by exact (pm_turn ((by exact pm_var 3))))))))) (by exact pms_nil)))))))
theorem fn_order_after (E : Facts P w K mg base T) : FnQ P w K mg base CX0 12 E.f_order_after E.d_order_after ["throw", "deck"] (spM K T 2 r_order_after) := by
  have S := sc_order_after
  have F := E.F_order_after
  refine FnM (N := ["throw", "deck", "card", "lot", "sign"]) (ps := ["throw", "deck"]) (T := T) (k := 11) (body := b_order_after) F S fun cdv A below s H ex hco rq => ?_
  exact (by exact (pms_cons (by exact pms_drop ((by exact (pm_call (k := 11) (ps := ["size", "thing"]) (by exact (fn_need_deck E).up (by decide)) (by exact rq) (by rfl) (by exact E.m_need_deck) (by exact E.F_need_deck.kp) (by exact E.b_need_deck) (by exact (pma_cons ((by exact (pm_call (k := 11) (ps := ["throw"]) (by exact (fn_size_of E).up (by decide)) (by exact rq) (by rfl) (by exact E.m_size_of) (by exact E.F_size_of.kp) (by exact E.b_size_of) (by exact (pma_cons ((by exact pm_var 0)) (by exact pma_nil)))))) (by exact (pma_cons ((by exact pm_var 1)) (by exact pma_nil))))))))) (by exact (pms_cons (by exact pms_ret ((by exact (pm_ty cr_tupF cd_tup (by rfl) (by exact E.n_tuple) (by exact (pma_cons ((by exact (pm_ofL (by exact (pml_lc2 (own := [("lot", 3), ("sign", 4), ("card", 2)]) (vs1 := [2]) (by rfl) (by exact S.nd) ((by exact (pmi_seq ((by exact pm_var 0))))) (by exact blkOk_by (by rfl)) ⟨fun _ _ _ _ _ => (by exact (pmg_tup (by rfl) (by exact (pmgs_cons (by exact (pmg_name 3 (by exact S.nd))) (by exact (pmgs_cons (by exact (pmg_name 4 (by exact S.nd))) (by exact pmgs_nil))))))), fun _ _ _ _ _ => pmts_nil⟩ (fun _ _ _ _ _ => (by exact (pmi_seq ((by exact (pm_call (k := 11) (ps := ["lot", "sign", "deck"]) (by exact (fn_cards_of_lot E).up (by decide)) (by exact rq) (by rfl) (by exact E.m_cards_of_lot) (by exact E.F_cards_of_lot.kp) (by exact E.b_cards_of_lot) (by exact (pma_cons ((by exact pm_var 3)) (by exact (pma_cons ((by exact pm_var 4)) (by exact (pma_cons ((by exact pm_var 1)) (by exact pma_nil))))))))))))) ⟨fun _ _ _ _ _ => (by exact (pmg_name 2 (by exact S.nd))), fun _ _ _ _ _ => pmts_nil⟩ (fun _ _ _ _ _ => (by exact pm_var 2))))))) (by exact pma_nil))))))) (by exact pms_nil)))))
theorem fn_deck_after (E : Facts P w K mg base T) : FnQ P w K mg base CX0 13 E.f_deck_after E.d_deck_after ["throw", "deck"] (spM K T 2 r_deck_after) := by
  have S := sc_deck_after
  have F := E.F_deck_after
  refine FnM (N := ["throw", "deck"]) (ps := ["throw", "deck"]) (T := T) (k := 12) (body := b_deck_after) F S fun cdv A below s H ex hco rq => ?_
  exact (by exact (pms_cons (by exact pms_ret ((by exact (pm_call (k := 12) (ps := ["deck", "order"]) (by exact (fn_laid E).up (by decide)) (by exact rq) (by rfl) (by exact E.m_laid) (by exact E.F_laid.kp) (by exact E.b_laid) (by exact (pma_cons ((by exact pm_var 1)) (by exact (pma_cons ((by exact (pm_call (k := 12) (ps := ["throw", "deck"]) (by exact (fn_order_after E).up (by decide)) (by exact rq) (by rfl) (by exact E.m_order_after) (by exact E.F_order_after.kp) (by exact E.b_order_after) (by exact (pma_cons ((by exact pm_var 0)) (by exact (pma_cons ((by exact pm_var 1)) (by exact pma_nil)))))))) (by exact pma_nil))))))))) (by exact pms_nil)))
theorem fn_can_come (E : Facts P w K mg base T) : FnQ P w K mg base CX0 12 E.f_can_come E.d_can_come ["throw", "deck"] (spM K T 2 r_can_come) := by
  have S := sc_can_come
  have F := E.F_can_come
  refine FnM (N := ["throw", "deck", "lots", "kind"]) (ps := ["throw", "deck"]) (T := T) (k := 11) (body := b_can_come) F S fun cdv A below s H ex hco rq => ?_
  exact (by exact (pms_cons (by exact pms_drop ((by exact (pm_call (k := 11) (ps := ["size", "thing"]) (by exact (fn_need_deck E).up (by decide)) (by exact rq) (by rfl) (by exact E.m_need_deck) (by exact E.F_need_deck.kp) (by exact E.b_need_deck) (by exact (pma_cons ((by exact (pm_call (k := 11) (ps := ["throw"]) (by exact (fn_size_of E).up (by decide)) (by exact rq) (by rfl) (by exact E.m_size_of) (by exact E.F_size_of.kp) (by exact E.b_size_of) (by exact (pma_cons ((by exact pm_var 0)) (by exact pma_nil)))))) (by exact (pma_cons ((by exact pm_var 1)) (by exact pma_nil))))))))) (by exact (pms_cons (by exact pms_setLc (i := 2) (own := [("kind", 3)]) (by rfl) (by exact S.nd) ((by exact (pmi_seq ((by exact pm_var 1))))) (by exact blkOk_by (by rfl)) ⟨fun _ _ _ _ _ => (by exact (pmg_name 3 (by exact S.nd))), fun _ _ _ _ _ => pmts_nil⟩ (fun _ _ _ _ _ => (by exact (pm_call (k := 11) (ps := ["throw", "kind"]) (by exact (fn_position_in E).up (by decide)) (by exact rq) (by rfl) (by exact E.m_position_in) (by exact E.F_position_in.kp) (by exact E.b_position_in) (by exact (pma_cons ((by exact pm_var 0)) (by exact (pma_cons ((by exact pm_var 3)) (by exact pma_nil)))))))) (sw_true rfl rfl rfl (by decide +kernel))) (by exact (pmss_frz 2 (by exact (pms_cons (by exact pms_ret ((by exact (pm_cmp (by exact op_eqA rq.room.units) od_eq ((by exact pm_var 2)) ((by exact (pm_ofL (by exact (pml_bi (CallR.or cr_sortedI cr_sortTI) cl_sort (by rfl) (by exact E.n_sorted) (by exact (pma_cons ((by exact pm_var 2)) (by exact pma_nil)))))))))))) (by exact pms_nil)))))))))
theorem fn_Llaw_draw (E : Facts P w K mg base T) : FnQ P w K mg base CX0 1 E.f_Llaw_draw E.d_Llaw_draw ["_law_deck_here", "_law_many"] (spM K T 2 r_Llaw_draw) := by
  have S := sc_Llaw_draw
  have F := E.F_Llaw_draw
  refine FnM (N := ["_law_deck_here", "_law_many", "_law_number", "_law_cell"]) (ps := ["_law_deck_here", "_law_many"]) (T := T) (k := 0) (body := b_Llaw_draw) F S fun cdv A below s H ex hco rq => ?_
  exact (by exact (pms_cons (by exact pms_asg ((by exact (pm_op op_addD od_add ((by exact (pm_draws 0 (by exact hu_of rq.room)))) (pm_int)))) (by exact (pmg_draws 0 (by exact hu_of rq.room)))) (by exact (pms_cons (by exact pms_set 2 ((by exact (pm_op op_addD od_add ((by exact (pm_mixed 0 (by exact hu_of rq.room)))) ((by exact (pm_op op_mulD od_mul (pm_int) ((by exact (pm_draws 0 (by exact hu_of rq.room)))))))))) (by exact S.nd)) (by exact (pms_cons (by exact pms_if ((by exact (pmt_cells 0 (by exact rq.room.units)))) (by exact (pms_cons (by exact pms_set 3 ((by exact (pm_cellsPop 0 (by exact hu_of rq.room)))) (by exact S.nd)) (by exact (pms_cons (by exact pms_if ((by exact (pmt_cmp op_ge od_ge ((by exact pm_var 3)) ((by exact (pm_op op_pow od_pow (pm_int) (pm_int))))))) (by exact (pms_cons (by exact pms_drop ((by exact (pm_cellsApp 0 (by exact hu_of rq.room) ((by exact (pm_op op_fdivW od_fdiv ((by exact pm_var 3)) ((by exact (pm_bi (call_max2 (by rfl)) cd_max2 (by rfl) (by exact E.n_max) (by exact (pma_cons (pm_int) (by exact (pma_cons ((by exact pm_var 1)) (by exact pma_nil))))))))))))))) (by exact (pms_cons (by exact pms_ret ((by exact (pm_op op_mod od_mod ((by exact (pm_ty call_int1 cd_int (by rfl) (by exact E.n_int) (by exact (pma_cons ((by exact pm_var 3)) (by exact pma_nil)))))) ((by exact pm_var 1)))))) (by exact pms_nil))))) pms_nil) (by exact (pms_cons (by exact pms_set 2 ((by exact (pm_op op_addD od_add ((by exact pm_var 2)) ((by exact (pm_op op_mod od_mod ((by exact (pm_ty call_int1 cd_int (by rfl) (by exact E.n_int) (by exact (pma_cons ((by exact pm_var 3)) (by exact pma_nil)))))) (pm_int))))))) (by exact S.nd)) (by exact pms_nil))))))) pms_nil) (by exact (pms_cons (by exact pms_set 2 ((by exact (pm_op op_mod od_mod ((by exact (pm_ty call_int1 cd_int (by rfl) (by exact E.n_int) (by exact (pma_cons ((by exact (pm_op op_addD od_add ((by exact (pm_op op_mulD od_mul ((by exact pm_var 2)) (pm_int)))) (pm_int)))) (by exact pma_nil)))))) (pm_int)))) (by exact S.nd)) (by exact (pms_cons (by exact pms_set 2 ((by exact (pm_op op_mod od_mod ((by exact (pm_ty call_int1 cd_int (by rfl) (by exact E.n_int) (by exact (pma_cons ((by exact (pm_op op_addD od_add ((by exact (pm_op op_addD od_add ((by exact (pm_op op_mulD od_mul ((by exact pm_var 2)) ((by exact pm_var 2))))) ((by exact (pm_op op_mulD od_mul (pm_int) ((by exact (pm_draws 0 (by exact hu_of rq.room)))))))))) (pm_int)))) (by exact pma_nil)))))) (pm_int)))) (by exact S.nd)) (by exact (pms_cons (by exact pms_set 2 ((by exact (pm_op op_mod od_mod ((by exact (pm_ty call_int1 cd_int (by rfl) (by exact E.n_int) (by exact (pma_cons ((by exact (pm_op op_mulD od_mul ((by exact pm_var 2)) (pm_int)))) (by exact pma_nil)))))) (pm_int)))) (by exact S.nd)) (by exact (pms_cons (by exact pms_ret ((by exact (pm_op op_mod od_mod ((by exact (pm_ty call_int1 cd_int (by rfl) (by exact E.n_int) (by exact (pma_cons ((by exact (pm_op op_fdivW od_fdiv ((by exact pm_var 2)) (pm_int)))) (by exact pma_nil)))))) ((by exact pm_var 1)))))) (by exact pms_nil)))))))))))))))
theorem fn_Llaw_pick (E : Facts P w K mg base T) : FnQ P w K mg base CX0 2 E.f_Llaw_pick E.d_Llaw_pick ["_law_deck_here", "_law_some"] (spM K T 2 r_Llaw_pick) := by
  have S := sc_Llaw_pick
  have F := E.F_Llaw_pick
  refine FnM (N := ["_law_deck_here", "_law_some"]) (ps := ["_law_deck_here", "_law_some"]) (T := T) (k := 1) (body := b_Llaw_pick) F S fun cdv A below s H ex hco rq => ?_
  exact (by exact (pms_cons (by exact pms_ret ((by exact (pm_ix ((by exact pm_var 1)) ((by exact (pm_call (k := 1) (ps := ["_law_deck_here", "_law_many"]) (by exact (fn_Llaw_draw E).up (by decide)) (by exact rq) (by rfl) (by exact E.m_Llaw_draw) (by exact E.F_Llaw_draw.kp) (by exact E.b_Llaw_draw) (by exact (pma_cons ((by exact pm_var 0)) (by exact (pma_cons ((by exact (pm_bi call_len cd_len (by rfl) (by exact E.n_len) (by exact (pma_cons ((by exact pm_var 1)) (by exact pma_nil)))))) (by exact pma_nil)))))))))))) (by exact pms_nil)))
theorem fn_Llaw_cards (E : Facts P w K mg base T) : FnQ P w K mg base CX0 2 E.f_Llaw_cards E.d_Llaw_cards ["_law_deck_here", "_law_size_here", "_law_most"] (spM K T 3 r_Llaw_cards) := by
  have S := sc_Llaw_cards
  have F := E.F_Llaw_cards
  refine FnM (N := ["_law_deck_here", "_law_size_here", "_law_most", "_law_few", "_law_way_here", "_law_many", "_law_turn"]) (ps := ["_law_deck_here", "_law_size_here", "_law_most"]) (T := T) (k := 1) (body := b_Llaw_cards) F S fun cdv A below s H ex hco rq => ?_
  exact (by exact (pms_cons (by exact pms_asg ((by exact (pm_tup ((by exact (pma_cons ((by exact (pm_call (k := 1) (ps := ["_law_deck_here", "_law_many"]) (by exact (fn_Llaw_draw E).up (by decide)) (by exact rq) (by rfl) (by exact E.m_Llaw_draw) (by exact E.F_Llaw_draw.kp) (by exact E.b_Llaw_draw) (by exact (pma_cons ((by exact pm_var 0)) (by exact (pma_cons (pm_int) (by exact pma_nil)))))))) (by exact (pma_cons ((by exact (pm_call (k := 1) (ps := ["_law_deck_here", "_law_many"]) (by exact (fn_Llaw_draw E).up (by decide)) (by exact rq) (by rfl) (by exact E.m_Llaw_draw) (by exact E.F_Llaw_draw.kp) (by exact E.b_Llaw_draw) (by exact (pma_cons ((by exact pm_var 0)) (by exact (pma_cons ((by exact (pm_op op_addD od_add ((by exact pm_var 2)) (pm_int)))) (by exact pma_nil)))))))) (by exact pma_nil))))))))) (by exact (pmg_tup (by rfl) (by exact (pmgs_cons (by exact (pmg_name 4 (by exact S.nd))) (by exact (pmgs_cons (by exact (pmg_name 5 (by exact S.nd))) (by exact pmgs_nil)))))))) (by exact (pms_cons (by exact pms_if ((by exact (pmt_cmp (by exact op_eqA rq.room.units) od_eq ((by exact pm_var 4)) (pm_int)))) (by exact (pms_cons (by exact pms_ret ((by exact (pm_ty cr_tupF cd_tup (by rfl) (by exact E.n_tuple) (by exact (pma_cons ((by exact (pm_op op_mulD od_mul ((by exact (pm_ofL (by exact (pml_lst (by exact (pma_cons ((by exact (pm_call (k := 1) (ps := ["_law_deck_here", "_law_many"]) (by exact (fn_Llaw_draw E).up (by decide)) (by exact rq) (by rfl) (by exact E.m_Llaw_draw) (by exact E.F_Llaw_draw.kp) (by exact E.b_Llaw_draw) (by exact (pma_cons ((by exact pm_var 0)) (by exact (pma_cons ((by exact pm_var 1)) (by exact pma_nil)))))))) (by exact pma_nil)))))))) ((by exact pm_var 5))))) (by exact pma_nil))))))) (by exact pms_nil))) pms_nil) (by exact (pms_cons (by exact pms_set 3 ((by exact (pm_op op_addD od_add (pm_int) ((by exact (pm_call (k := 1) (ps := ["_law_deck_here", "_law_many"]) (by exact (fn_Llaw_draw E).up (by decide)) (by exact rq) (by rfl) (by exact E.m_Llaw_draw) (by exact E.F_Llaw_draw.kp) (by exact E.b_Llaw_draw) (by exact (pma_cons ((by exact pm_var 0)) (by exact (pma_cons ((by exact pm_var 1)) (by exact pma_nil))))))))))) (by exact S.nd)) (by exact (pms_cons (by exact pms_ret ((by exact (pm_ty cr_tupF cd_tup (by rfl) (by exact E.n_tuple) (by exact (pma_cons ((by exact (pm_ofL (by exact (pml_lc (own := [("_law_turn", 6)]) (by rfl) (by exact S.nd) ((by exact (pmi_range1 (by exact (pma_cons ((by exact pm_var 5)) (by exact pma_nil))) (by rfl) (by exact E.n_range)))) (by exact blkOk_by (by rfl)) ⟨fun _ _ _ _ _ => (by exact (pmg_name 6 (by exact S.nd))), fun _ _ _ _ _ => pmts_nil⟩ (fun _ _ _ _ _ => (by exact (pm_call (k := 1) (ps := ["_law_deck_here", "_law_many"]) (by exact (fn_Llaw_draw E).up (by decide)) (by exact rq) (by rfl) (by exact E.m_Llaw_draw) (by exact E.F_Llaw_draw.kp) (by exact E.b_Llaw_draw) (by exact (pma_cons ((by exact pm_var 0)) (by exact (pma_cons ((by exact (pm_if ((by exact (pmt_cmp (by exact op_eqA rq.room.units) od_eq ((by exact pm_var 4)) (pm_int)))) ((by exact pm_var 3)) ((by exact pm_var 1))))) (by exact pma_nil))))))))))))) (by exact pma_nil))))))) (by exact pms_nil)))))))))
theorem fn_Llaw_order (E : Facts P w K mg base T) : FnQ P w K mg base CX0 2 E.f_Llaw_order E.d_Llaw_order ["_law_deck_here", "_law_n"] (spM K T 2 r_Llaw_order) := by
  have S := sc_Llaw_order
  have F := E.F_Llaw_order
  refine FnM (N := ["_law_deck_here", "_law_n", "_law_turn", "_law_left", "_law_found"]) (ps := ["_law_deck_here", "_law_n"]) (T := T) (k := 1) (body := b_Llaw_order) F S fun cdv A below s H ex hco rq => ?_
  exact (by exact (pms_cons (by exact pms_par (i := 3) (j := 4) (by rfl) (by exact S.nd) (by exact (pmx_own (by exact (pml_listRg (by rfl) ((by exact pm_var 1)) (by rfl) (by exact E.n_list) (by rfl) (by exact E.n_range))) (by exact (pmx_own (by exact (pml_lst pma_nil)) (by exact pmx_nil)))))) (by exact (pms_cons (by exact pms_for (by exact PassesOwn.never) (by rfl) ((by exact (pmi_range1 (by exact (pma_cons ((by exact pm_var 1)) (by exact pma_nil))) (by rfl) (by exact E.n_range)))) (by exact (pmg_name 2 (by exact S.nd))) (by exact (pms_cons (by exact pms_drop ((by exact (pm_mut 4 PySem.F.slot_list_append PySem.F.type_list_append mt_append md_append (by exact (pma_cons ((by exact (pm_mut 3 PySem.F.slot_list_pop PySem.F.type_list_pop mt_popAt md_popAt (by exact (pma_cons ((by exact (pm_call (k := 1) (ps := ["_law_deck_here", "_law_many"]) (by exact (fn_Llaw_draw E).up (by decide)) (by exact rq) (by rfl) (by exact E.m_Llaw_draw) (by exact E.F_Llaw_draw.kp) (by exact E.b_Llaw_draw) (by exact (pma_cons ((by exact pm_var 0)) (by exact (pma_cons ((by exact (pm_ownLen 3 (by rfl) (by exact E.n_len)))) (by exact pma_nil)))))))) (by exact pma_nil)))))) (by exact pma_nil))))))) (by exact pms_nil)))) (by exact (pms_cons (by exact pms_ret ((by exact (pm_ty cr_tupF cd_tup (by rfl) (by exact E.n_tuple) (by exact (pma_cons ((by exact pm_var 4)) (by exact pma_nil))))))) (by exact pms_nil)))))))
theorem fn_Llaw_throw (E : Facts P w K mg base T) : FnQ P w K mg base CX0 3 E.f_Llaw_throw E.d_Llaw_throw ["_law_deck_here", "_law_size_here"] (spM K T 2 r_Llaw_throw) := by
  have S := sc_Llaw_throw
  have F := E.F_Llaw_throw
  refine FnM (N := ["_law_deck_here", "_law_size_here", "_law_places", "_law_lots", "_law_sign", "_law_way_here", "_law_many", "_law_at", "_law_kind", "_law_lot"]) (ps := ["_law_deck_here", "_law_size_here"]) (T := T) (k := 2) (body := b_Llaw_throw) F S fun cdv A below s H ex hco rq => ?_
  exact (by exact (pms_cons (by exact pms_asg ((by exact (pm_tup ((by exact (pma_cons ((by exact (pm_call (k := 2) (ps := ["_law_deck_here", "_law_many"]) (by exact (fn_Llaw_draw E).up (by decide)) (by exact rq) (by rfl) (by exact E.m_Llaw_draw) (by exact E.F_Llaw_draw.kp) (by exact E.b_Llaw_draw) (by exact (pma_cons ((by exact pm_var 0)) (by exact (pma_cons (pm_int) (by exact pma_nil)))))))) (by exact (pma_cons ((by exact (pm_op op_addD od_add (pm_int) ((by exact (pm_call (k := 2) (ps := ["_law_deck_here", "_law_many"]) (by exact (fn_Llaw_draw E).up (by decide)) (by exact rq) (by rfl) (by exact E.m_Llaw_draw) (by exact E.F_Llaw_draw.kp) (by exact E.b_Llaw_draw) (by exact (pma_cons ((by exact pm_var 0)) (by exact (pma_cons ((by exact pm_var 1)) (by exact pma_nil))))))))))) (by exact pma_nil))))))))) (by exact (pmg_tup (by rfl) (by exact (pmgs_cons (by exact (pmg_name 5 (by exact S.nd))) (by exact (pmgs_cons (by exact (pmg_name 6 (by exact S.nd))) (by exact pmgs_nil)))))))) (by exact (pms_cons (by exact pms_if ((by exact (pmt_cmp (by exact op_eqA rq.room.units) od_eq ((by exact pm_var 5)) (pm_int)))) (by exact (pms_cons (by exact pms_set 6 (pm_int) (by exact S.nd)) (by exact pms_nil))) pms_nil) (by exact (pms_cons (by exact pms_set 2 ((by exact (pm_if ((by exact (pmt_cmp (by exact op_neA rq.room.units) od_ne ((by exact pm_var 5)) (pm_int)))) ((by exact (pm_ofL (by exact (pml_lc (own := [("_law_kind", 8)]) (by rfl) (by exact S.nd) ((by exact (pmi_range1 (by exact (pma_cons ((by exact pm_var 1)) (by exact pma_nil))) (by rfl) (by exact E.n_range)))) (by exact blkOk_by (by rfl)) ⟨fun _ _ _ _ _ => (by exact (pmg_name 8 (by exact S.nd))), fun _ _ _ _ _ => pmts_nil⟩ (fun _ _ _ _ _ => (by exact (pm_call (k := 2) (ps := ["_law_deck_here", "_law_many"]) (by exact (fn_Llaw_draw E).up (by decide)) (by exact rq) (by rfl) (by exact E.m_Llaw_draw) (by exact E.F_Llaw_draw.kp) (by exact E.b_Llaw_draw) (by exact (pma_cons ((by exact pm_var 0)) (by exact (pma_cons ((by exact pm_var 6)) (by exact pma_nil))))))))))))) ((by exact (pm_ofL (by exact (pml_ty call_list_of cl_list (by rfl) (by exact E.n_list) (by exact (pma_cons ((by exact (pm_call (k := 2) (ps := ["_law_deck_here", "_law_n"]) (by exact (fn_Llaw_order E).up (by decide)) (by exact rq) (by rfl) (by exact E.m_Llaw_order) (by exact E.F_Llaw_order.kp) (by exact E.b_Llaw_order) (by exact (pma_cons ((by exact pm_var 0)) (by exact (pma_cons ((by exact pm_var 1)) (by exact pma_nil)))))))) (by exact pma_nil))))))))))) (by exact S.nd)) (by exact (pms_cons (by exact pms_setLc (i := 3) (own := [("_law_at", 7)]) (by rfl) (by exact S.nd) ((by exact (pmi_range1 (by exact (pma_cons ((by exact (pm_op op_addD od_add ((by exact (pm_bi (cr_max (by rfl)) cd_max (by rfl) (by exact E.n_max) (by exact (pma_cons ((by exact pm_var 2)) (by exact pma_nil)))))) (pm_int)))) (by exact pma_nil))) (by rfl) (by exact E.n_range)))) (by exact blkOk_by (by rfl)) ⟨fun _ _ _ _ _ => (by exact (pmg_name 7 (by exact S.nd))), fun _ _ _ _ _ => pmts_nil⟩ (fun _ _ _ _ _ => (by exact (pm_ty cr_tupF cd_tup (by rfl) (by exact E.n_tuple) (by exact (pma_cons ((by exact (pm_ofL (by exact (pml_lc (own := [("_law_kind", 8)]) (by rfl) (by exact S.nd) ((by exact (pmi_range1 (by exact (pma_cons ((by exact pm_var 1)) (by exact pma_nil))) (by rfl) (by exact E.n_range)))) (by exact blkOk_by (by rfl)) ⟨fun _ _ _ _ _ => (by exact (pmg_name 8 (by exact S.nd))), fun _ _ _ _ _ => (by exact (pmts_one ((by exact (pmt_cmp (by exact op_eqA rq.room.units) od_eq ((by exact (pm_ix ((by exact pm_var 2)) ((by exact pm_var 8))))) ((by exact pm_var 7)))))))⟩ (fun _ _ _ _ _ => (by exact pm_var 8))))))) (by exact pma_nil)))))) (sw_true rfl rfl rfl (by decide +kernel))) (by exact (pmss_frz 3 (by exact (pms_cons (by exact pms_set 4 ((by exact (pm_call (k := 2) (ps := ["_law_deck_here", "_law_some"]) (by exact (fn_Llaw_pick E).up (by decide)) (by exact rq) (by rfl) (by exact E.m_Llaw_pick) (by exact E.F_Llaw_pick.kp) (by exact E.b_Llaw_pick) (by exact (pma_cons ((by exact pm_var 0)) (by exact (pma_cons ((by exact (pm_tup ((by exact (pma_cons (pm_int) (by exact (pma_cons ((by exact (pm_neg (pm_int)))) (by exact pma_nil))))))))) (by exact pma_nil)))))))) (by exact S.nd)) (by exact (pms_cons (by exact pms_ret ((by exact (pm_ty cr_tupF cd_tup (by rfl) (by exact E.n_tuple) (by exact (pma_cons ((by exact (pm_ofL (by exact (pml_lc (own := [("_law_lot", 9)]) (by rfl) (by exact S.nd) ((by exact (pmi_seq ((by exact pm_var 3))))) (by exact blkOk_by (by rfl)) ⟨fun _ _ _ _ _ => (by exact (pmg_name 9 (by exact S.nd))), fun _ _ _ _ _ => (by exact (pmts_one ((by exact (pmt_cmp (by exact op_neA rq.room.units) od_ne ((by exact pm_var 9)) ((by exact (pm_tup (pma_nil)))))))))⟩ (fun _ _ _ _ _ => (by exact (pm_tup ((by exact (pma_cons ((by exact pm_var 9)) (by exact (pma_cons ((by exact (pm_if ((by exact (pmt_cmp (by exact op_eqA rq.room.units) od_eq ((by exact pm_var 5)) (pm_int)))) ((by exact pm_var 4)) ((by exact (pm_call (k := 2) (ps := ["_law_deck_here", "_law_some"]) (by exact (fn_Llaw_pick E).up (by decide)) (by exact rq) (by rfl) (by exact E.m_Llaw_pick) (by exact E.F_Llaw_pick.kp) (by exact E.b_Llaw_pick) (by exact (pma_cons ((by exact pm_var 0)) (by exact (pma_cons ((by exact (pm_tup ((by exact (pma_cons (pm_int) (by exact (pma_cons ((by exact (pm_neg (pm_int)))) (by exact pma_nil))))))))) (by exact pma_nil))))))))))) (by exact pma_nil)))))))))))))) (by exact pma_nil))))))) (by exact pms_nil)))))))))))))))
theorem fn_Llaw_size (E : Facts P w K mg base T) : FnQ P w K mg base CX0 1 E.f_Llaw_size E.d_Llaw_size ["_law_throw_here"] (spM K T 1 r_Llaw_size) := by
  have S := sc_Llaw_size
  have F := E.F_Llaw_size
  refine FnM (N := ["_law_throw_here", "_law_lot", "_law_sign"]) (ps := ["_law_throw_here"]) (T := T) (k := 0) (body := b_Llaw_size) F S fun cdv A below s H ex hco rq => ?_
  exact (by exact (pms_cons (by exact pms_ret ((by exact (pm_bi (cr_sum (by rfl)) cd_sum (by rfl) (by exact E.n_sum) (by exact (pma_cons ((by exact (pm_ofL (by exact (pml_lc (own := [("_law_lot", 1), ("_law_sign", 2)]) (by rfl) (by exact S.nd) ((by exact (pmi_seq ((by exact pm_var 0))))) (by exact blkOk_by (by rfl)) ⟨fun _ _ _ _ _ => (by exact (pmg_tup (by rfl) (by exact (pmgs_cons (by exact (pmg_name 1 (by exact S.nd))) (by exact (pmgs_cons (by exact (pmg_name 2 (by exact S.nd))) (by exact pmgs_nil))))))), fun _ _ _ _ _ => pmts_nil⟩ (fun _ _ _ _ _ => (by exact (pm_bi call_len cd_len (by rfl) (by exact E.n_len) (by exact (pma_cons ((by exact pm_var 1)) (by exact pma_nil))))))))))) (by exact pma_nil))))))) (by exact pms_nil)))
theorem fn_Llaw_after (E : Facts P w K mg base T) : FnQ P w K mg base CX0 1 E.f_Llaw_after E.d_Llaw_after ["_law_throw_here", "_law_cards_here"] (spM K T 2 r_Llaw_after) := by
  have S := sc_Llaw_after
  have F := E.F_Llaw_after
  refine FnM (N := ["_law_throw_here", "_law_cards_here", "_law_found", "_law_heap", "_law_places", "_law_heaps", "_law_at", "_law_kind", "_law_card", "_law_lot", "_law_sign"]) (ps := ["_law_throw_here", "_law_cards_here"]) (T := T) (k := 0) (body := b_Llaw_after) F S fun cdv A below s H ex hco rq => ?_
  exact (by exact (pms_cons (by exact pms_par (i := 4) (j := 5) (by rfl) (by exact S.nd) (by exact (pmx_dict (by exact (pmx_own (by exact (pml_lc (own := [("_law_lot", 9)]) (by rfl) (by exact S.nd) ((by exact (pmi_seq ((by exact pm_var 0))))) (by exact blkOk_by (by rfl)) ⟨fun _ _ _ _ _ => (by exact (pmg_name 9 (by exact S.nd))), fun _ _ _ _ _ => pmts_nil⟩ (fun _ _ _ _ _ => (by exact (pm_ofL (by exact (pml_lst pma_nil))))))) (by exact pmx_nil)))))) (by exact (pms_cons (by exact pms_for (by exact PassesOwn.never) (by rfl) ((by exact (pmi_enum (by exact (pma_cons ((by exact pm_var 0)) (by exact pma_nil))) (by rfl) (by exact E.n_enumerate)))) (by exact (pmg_tup (by rfl) (by exact (pmgs_cons (by exact (pmg_name 6 (by exact S.nd))) (by exact (pmgs_cons (by exact (pmg_tup (by rfl) (by exact (pmgs_cons (by exact (pmg_name 9 (by exact S.nd))) (by exact (pmgs_cons (by exact (pmg_name 10 (by exact S.nd))) (by exact pmgs_nil))))))) (by exact pmgs_nil))))))) (by exact (pms_cons (by exact pms_for (by exact PassesOwn.never) (by rfl) ((by exact (pmi_seq ((by exact pm_var 9))))) (by exact (pmg_name 7 (by exact S.nd))) (by exact (pms_cons (by exact pms_asg ((by exact pm_var 6)) (by exact (pmg_dSet 4 (by exact hu_of rq.room) ((by exact pm_var 7))))) (by exact pms_nil)))) (by exact pms_nil)))) (by exact (pms_cons (by exact pms_for (by exact PassesOwn.never) (by rfl) ((by exact (pmi_enum (by exact (pma_cons ((by exact pm_var 1)) (by exact pma_nil))) (by rfl) (by exact E.n_enumerate)))) (by exact (pmg_tup (by rfl) (by exact (pmgs_cons (by exact (pmg_name 8 (by exact S.nd))) (by exact (pmgs_cons (by exact (pmg_name 7 (by exact S.nd))) (by exact pmgs_nil))))))) (by exact (pms_cons (by exact pms_set 6 ((by exact (pm_dGet 4 (by exact hu_of rq.room) ((by exact pm_var 7))))) (by exact S.nd)) (by exact (pms_cons (by exact pms_asg ((by exact (pm_if ((by exact (pmt_cmp (by exact op_eqA rq.room.units) od_eq ((by exact (pm_ix ((by exact (pm_ix ((by exact pm_var 0)) ((by exact pm_var 6))))) (pm_int)))) (pm_int)))) ((by exact (pm_op op_addD od_add ((by exact (pm_ownIx 5 ((by exact pm_var 6))))) ((by exact (pm_ofL (by exact (pml_lst (by exact (pma_cons ((by exact pm_var 8)) (by exact pma_nil))))))))))) ((by exact (pm_op op_addD od_add ((by exact (pm_ofL (by exact (pml_lst (by exact (pma_cons ((by exact pm_var 8)) (by exact pma_nil)))))))) ((by exact (pm_ownIx 5 ((by exact pm_var 6))))))))))) (by exact (pmg_ownSet 5 ((by exact pm_var 6))))) (by exact pms_nil)))))) (by exact (pms_cons (by exact pms_own 2 (by exact (pml_lst pma_nil)) (by exact S.nd)) (by exact (pms_cons (by exact pms_for (by exact PassesOwn.never) (by rfl) ((by exact (pmi_seq ((by exact pm_var 5))))) (by exact (pmg_name 3 (by exact S.nd))) (by exact (pms_cons (by exact pms_drop ((by exact (pm_mut 2 PySem.F.slot_list_extend PySem.F.type_list_extend mt_extend md_extend (by exact (pma_cons ((by exact pm_var 3)) (by exact pma_nil))))))) (by exact pms_nil)))) (by exact (pms_cons (by exact pms_ret ((by exact (pm_ty cr_tupF cd_tup (by rfl) (by exact E.n_tuple) (by exact (pma_cons ((by exact pm_var 2)) (by exact pma_nil))))))) (by exact pms_nil)))))))))))))
theorem fn_Llaw_laid (E : Facts P w K mg base T) : FnQ P w K mg base CX0 1 E.f_Llaw_laid E.d_Llaw_laid ["_law_cards_here", "_law_order_here"] (spM K T 2 r_Llaw_laid) := by
  have S := sc_Llaw_laid
  have F := E.F_Llaw_laid
  refine FnM (N := ["_law_cards_here", "_law_order_here", "_law_card"]) (ps := ["_law_cards_here", "_law_order_here"]) (T := T) (k := 0) (body := b_Llaw_laid) F S fun cdv A below s H ex hco rq => ?_
  exact (by exact (pms_cons (by exact pms_ret ((by exact (pm_ty cr_tupF cd_tup (by rfl) (by exact E.n_tuple) (by exact (pma_cons ((by exact (pm_ofL (by exact (pml_lc (own := [("_law_card", 2)]) (by rfl) (by exact S.nd) ((by exact (pmi_seq ((by exact pm_var 1))))) (by exact blkOk_by (by rfl)) ⟨fun _ _ _ _ _ => (by exact (pmg_name 2 (by exact S.nd))), fun _ _ _ _ _ => pmts_nil⟩ (fun _ _ _ _ _ => (by exact (pm_ix ((by exact pm_var 0)) ((by exact pm_var 2)))))))))) (by exact pma_nil))))))) (by exact pms_nil)))
theorem fn_Llaw_way (E : Facts P w K mg base T) : FnQ P w K mg base CX0 1 E.f_Llaw_way E.d_Llaw_way ["_law_throw_here", "_law_a", "_law_b"] (spM K T 3 r_Llaw_way) := by
  have S := sc_Llaw_way
  have F := E.F_Llaw_way
  refine FnM (N := ["_law_throw_here", "_law_a", "_law_b", "_law_near", "_law_far", "_law_at", "_law_lot", "_law_sign"]) (ps := ["_law_throw_here", "_law_a", "_law_b"]) (T := T) (k := 0) (body := b_Llaw_way) F S fun cdv A below s H ex hco rq => ?_
  exact (by exact (pms_cons (by exact pms_set 3 ((by exact (pm_ix ((by exact (pm_ofL (by exact (pml_lc (own := [("_law_at", 5), ("_law_lot", 6), ("_law_sign", 7)]) (by rfl) (by exact S.nd) ((by exact (pmi_enum (by exact (pma_cons ((by exact pm_var 0)) (by exact pma_nil))) (by rfl) (by exact E.n_enumerate)))) (by exact blkOk_by (by rfl)) ⟨fun _ _ _ _ _ => (by exact (pmg_tup (by rfl) (by exact (pmgs_cons (by exact (pmg_name 5 (by exact S.nd))) (by exact (pmgs_cons (by exact (pmg_tup (by rfl) (by exact (pmgs_cons (by exact (pmg_name 6 (by exact S.nd))) (by exact (pmgs_cons (by exact (pmg_name 7 (by exact S.nd))) (by exact pmgs_nil))))))) (by exact pmgs_nil))))))), fun _ _ _ _ _ => (by exact (pmts_one ((by exact (pmt_cmp op_in_seq od_in ((by exact pm_var 1)) ((by exact pm_var 6)))))))⟩ (fun _ _ _ _ _ => (by exact pm_var 5))))))) (pm_int)))) (by exact S.nd)) (by exact (pms_cons (by exact pms_set 4 ((by exact (pm_ix ((by exact (pm_ofL (by exact (pml_lc (own := [("_law_at", 5), ("_law_lot", 6), ("_law_sign", 7)]) (by rfl) (by exact S.nd) ((by exact (pmi_enum (by exact (pma_cons ((by exact pm_var 0)) (by exact pma_nil))) (by rfl) (by exact E.n_enumerate)))) (by exact blkOk_by (by rfl)) ⟨fun _ _ _ _ _ => (by exact (pmg_tup (by rfl) (by exact (pmgs_cons (by exact (pmg_name 5 (by exact S.nd))) (by exact (pmgs_cons (by exact (pmg_tup (by rfl) (by exact (pmgs_cons (by exact (pmg_name 6 (by exact S.nd))) (by exact (pmgs_cons (by exact (pmg_name 7 (by exact S.nd))) (by exact pmgs_nil))))))) (by exact pmgs_nil))))))), fun _ _ _ _ _ => (by exact (pmts_one ((by exact (pmt_cmp op_in_seq od_in ((by exact pm_var 2)) ((by exact pm_var 6)))))))⟩ (fun _ _ _ _ _ => (by exact pm_var 5))))))) (pm_int)))) (by exact S.nd)) (by exact (pms_cons (by exact pms_if ((by exact (pmt_cmp (by exact op_neA rq.room.units) od_ne ((by exact pm_var 3)) ((by exact pm_var 4))))) (by exact (pms_cons (by exact pms_ret ((by exact (pm_if ((by exact (pmt_cmp op_lt od_lt ((by exact pm_var 3)) ((by exact pm_var 4))))) (pm_str) (pm_str))))) (by exact pms_nil))) pms_nil) (by exact (pms_cons (by exact pms_ret ((by exact (pm_if ((by exact (pmt_cmp (by exact op_eqA rq.room.units) od_eq ((by exact (pm_ix ((by exact (pm_ix ((by exact pm_var 0)) ((by exact pm_var 3))))) (pm_int)))) (pm_int)))) (pm_str) (pm_str))))) (by exact pms_nil)))))))))
theorem fn_Llaw_is_after_right (E : Facts P w K mg base T) : FnQ P w K mg base CX0 14 E.f_Llaw_is_after_right E.d_Llaw_is_after_right ["_law_throw_here", "_law_cards_here"] (spM K T 2 r_Llaw_is_after_right) := by
  have S := sc_Llaw_is_after_right
  have F := E.F_Llaw_is_after_right
  refine FnM (N := ["_law_throw_here", "_law_cards_here", "_law_near", "_law_size_here", "_law_order_here"]) (ps := ["_law_throw_here", "_law_cards_here"]) (T := T) (k := 13) (body := b_Llaw_is_after_right) F S fun cdv A below s H ex hco rq => ?_
  exact (by exact (pms_cons (by exact pms_par (i := 3) (j := 4) (by rfl) (by exact S.nd) (by exact (pmx_dat ((by exact (pm_call (k := 13) (ps := ["_law_throw_here"]) (by exact (fn_Llaw_size E).up (by decide)) (by exact rq) (by rfl) (by exact E.m_Llaw_size) (by exact E.F_Llaw_size.kp) (by exact E.b_Llaw_size) (by exact (pma_cons ((by exact pm_var 0)) (by exact pma_nil)))))) (by exact (pmx_dat ((by exact (pm_call (k := 13) (ps := ["_law_throw_here", "_law_cards_here"]) (by exact (fn_Llaw_after E).up (by decide)) (by exact rq) (by rfl) (by exact E.m_Llaw_after) (by exact E.F_Llaw_after.kp) (by exact E.b_Llaw_after) (by exact (pma_cons ((by exact pm_var 0)) (by exact (pma_cons ((by exact pm_var 1)) (by exact pma_nil)))))))) (by exact pmx_nil)))))) (by exact (pms_cons (by exact pms_if ((by exact (pmt_cmp (by exact op_neA rq.room.units) od_ne ((by exact (pm_bi (by exact cr_repr rq.quiet rq.room.units) cd_repr (by rfl) (by exact E.n_repr) (by exact (pma_cons ((by exact (pm_tup ((by exact (pma_cons ((by exact (pm_call (k := 13) (ps := ["throw", "deck"]) (by exact (fn_order_after E).up (by decide)) (by exact rq) (by rfl) (by exact E.m_order_after) (by exact E.F_order_after.kp) (by exact E.b_order_after) (by exact (pma_cons ((by exact pm_var 0)) (by exact (pma_cons ((by exact pm_var 1)) (by exact pma_nil)))))))) (by exact (pma_cons ((by exact (pm_callk (k := 13) (ps := ["throw", "deck"]) (is := [1, 0]) (by exact (fn_order_after E).up (by decide)) (by exact rq) (by rfl) (by exact E.m_order_after) (by exact E.F_order_after.kp) (by exact E.k_order_after_deck_throw) (pmk_cons ((by exact pm_var 1)) (by exact (pmk_cons ((by exact pm_var 0)) (by exact pmk_nil))))))) (by exact pma_nil))))))))) (by exact pma_nil)))))) ((by exact (pm_bi (by exact cr_repr rq.quiet rq.room.units) cd_repr (by rfl) (by exact E.n_repr) (by exact (pma_cons ((by exact (pm_tup ((by exact (pma_cons ((by exact pm_var 4)) (by exact (pma_cons ((by exact pm_var 4)) (by exact pma_nil))))))))) (by exact pma_nil))))))))) (by exact (pms_cons (by exact pms_ret (pm_bl)) (by exact pms_nil))) pms_nil) (by exact (pms_cons (by exact pms_set 2 ((by exact (pm_call (k := 13) (ps := ["throw", "deck"]) (by exact (fn_deck_after E).up (by decide)) (by exact rq) (by rfl) (by exact E.m_deck_after) (by exact E.F_deck_after.kp) (by exact E.b_deck_after) (by exact (pma_cons ((by exact pm_var 0)) (by exact (pma_cons ((by exact pm_var 1)) (by exact pma_nil)))))))) (by exact S.nd)) (by exact (pms_cons (by exact pms_if ((by exact (pmt_cmp (by exact op_neA rq.room.units) od_ne ((by exact (pm_bi (by exact cr_repr rq.quiet rq.room.units) cd_repr (by rfl) (by exact E.n_repr) (by exact (pma_cons ((by exact (pm_tup ((by exact (pma_cons ((by exact pm_var 2)) (by exact (pma_cons ((by exact (pm_callk (k := 13) (ps := ["throw", "deck"]) (is := [1, 0]) (by exact (fn_deck_after E).up (by decide)) (by exact rq) (by rfl) (by exact E.m_deck_after) (by exact E.F_deck_after.kp) (by exact E.k_deck_after_deck_throw) (pmk_cons ((by exact pm_var 1)) (by exact (pmk_cons ((by exact pm_var 0)) (by exact pmk_nil))))))) (by exact (pma_cons ((by exact (pm_call (k := 13) (ps := ["deck", "order"]) (by exact (fn_laid E).up (by decide)) (by exact rq) (by rfl) (by exact E.m_laid) (by exact E.F_laid.kp) (by exact E.b_laid) (by exact (pma_cons ((by exact pm_var 1)) (by exact (pma_cons ((by exact pm_var 4)) (by exact pma_nil)))))))) (by exact pma_nil))))))))))) (by exact pma_nil)))))) ((by exact (pm_bi (by exact cr_repr rq.quiet rq.room.units) cd_repr (by rfl) (by exact E.n_repr) (by exact (pma_cons ((by exact (pm_op op_mulD od_mul ((by exact (pm_tup ((by exact (pma_cons ((by exact (pm_call (k := 13) (ps := ["_law_cards_here", "_law_order_here"]) (by exact (fn_Llaw_laid E).up (by decide)) (by exact rq) (by rfl) (by exact E.m_Llaw_laid) (by exact E.F_Llaw_laid.kp) (by exact E.b_Llaw_laid) (by exact (pma_cons ((by exact pm_var 1)) (by exact (pma_cons ((by exact pm_var 4)) (by exact pma_nil)))))))) (by exact pma_nil))))))) (pm_int)))) (by exact pma_nil))))))))) (by exact (pms_cons (by exact pms_ret (pm_bl)) (by exact pms_nil))) pms_nil) (by exact (pms_cons (by exact pms_ret ((by exact (pm_cmp (by exact op_eqA rq.room.units) od_eq ((by exact (pm_bi (by exact cr_repr rq.quiet rq.room.units) cd_repr (by rfl) (by exact E.n_repr) (by exact (pma_cons ((by exact (pm_tup ((by exact (pma_cons ((by exact (pm_call (k := 13) (ps := ["size", "deck"]) (by exact (fn_counts_of E).up (by decide)) (by exact rq) (by rfl) (by exact E.m_counts_of) (by exact E.F_counts_of.kp) (by exact E.b_counts_of) (by exact (pma_cons ((by exact pm_var 3)) (by exact (pma_cons ((by exact pm_var 2)) (by exact pma_nil)))))))) (by exact (pma_cons ((by exact (pm_call (k := 13) (ps := ["throw", "deck"]) (by exact (fn_can_come E).up (by decide)) (by exact rq) (by rfl) (by exact E.m_can_come) (by exact E.F_can_come.kp) (by exact E.b_can_come) (by exact (pma_cons ((by exact pm_var 0)) (by exact (pma_cons ((by exact pm_var 2)) (by exact pma_nil)))))))) (by exact (pma_cons ((by exact (pm_call (k := 13) (ps := ["throw"]) (by exact (fn_size_of E).up (by decide)) (by exact rq) (by rfl) (by exact E.m_size_of) (by exact E.F_size_of.kp) (by exact E.b_size_of) (by exact (pma_cons ((by exact pm_var 0)) (by exact pma_nil)))))) (by exact pma_nil))))))))))) (by exact pma_nil)))))) ((by exact (pm_bi (by exact cr_repr rq.quiet rq.room.units) cd_repr (by rfl) (by exact E.n_repr) (by exact (pma_cons ((by exact (pm_tup ((by exact (pma_cons ((by exact (pm_call (k := 13) (ps := ["size", "deck"]) (by exact (fn_counts_of E).up (by decide)) (by exact rq) (by rfl) (by exact E.m_counts_of) (by exact E.F_counts_of.kp) (by exact E.b_counts_of) (by exact (pma_cons ((by exact pm_var 3)) (by exact (pma_cons ((by exact pm_var 1)) (by exact pma_nil)))))))) (by exact (pma_cons (pm_bl) (by exact (pma_cons ((by exact pm_var 3)) (by exact pma_nil))))))))))) (by exact pma_nil)))))))))) (by exact pms_nil)))))))))))
theorem fn_Llaw_are_twos_right (E : Facts P w K mg base T) : FnQ P w K mg base CX0 13 E.f_Llaw_are_twos_right E.d_Llaw_are_twos_right ["_law_deck_here", "_law_throw_here", "_law_cards_here"] (spM K T 3 r_Llaw_are_twos_right) := by
  have S := sc_Llaw_are_twos_right
  have F := E.F_Llaw_are_twos_right
  refine FnM (N := ["_law_deck_here", "_law_throw_here", "_law_cards_here", "_law_order_here", "_law_spots", "_law_turn", "_law_way_here", "_law_i", "_law_j", "_law_at", "_law_card"]) (ps := ["_law_deck_here", "_law_throw_here", "_law_cards_here"]) (T := T) (k := 12) (body := b_Llaw_are_twos_right) F S fun cdv A below s H ex hco rq => ?_
  exact (by exact (pms_cons (by exact pms_set 3 ((by exact (pm_call (k := 12) (ps := ["throw", "deck"]) (by exact (fn_order_after E).up (by decide)) (by exact rq) (by rfl) (by exact E.m_order_after) (by exact E.F_order_after.kp) (by exact E.b_order_after) (by exact (pma_cons ((by exact pm_var 1)) (by exact (pma_cons ((by exact pm_var 2)) (by exact pma_nil)))))))) (by exact S.nd)) (by exact (pms_cons (by exact pms_ownD 4 (pmd_pairs (by rfl) (by rfl) (by exact E.n_dict) (by exact (pma_cons ((by exact (pm_ofL (by exact (pml_lc (own := [("_law_at", 9), ("_law_card", 10)]) (by rfl) (by exact S.nd) ((by exact (pmi_enum (by exact (pma_cons ((by exact pm_var 3)) (by exact pma_nil))) (by rfl) (by exact E.n_enumerate)))) (by exact blkOk_by (by rfl)) ⟨fun _ _ _ _ _ => (by exact (pmg_tup (by rfl) (by exact (pmgs_cons (by exact (pmg_name 9 (by exact S.nd))) (by exact (pmgs_cons (by exact (pmg_name 10 (by exact S.nd))) (by exact pmgs_nil))))))), fun _ _ _ _ _ => pmts_nil⟩ (fun _ _ _ _ _ => (by exact (pm_tup ((by exact (pma_cons ((by exact pm_var 10)) (by exact (pma_cons ((by exact pm_var 9)) (by exact pma_nil)))))))))))))) (by exact pma_nil)))) (by exact S.nd)) (by exact (pms_cons (by exact pms_for (by exact PassesOwn.never) (by rfl) ((by exact (pmi_range1 (by exact (pma_cons ((by exact (pm_if ((by exact (pmt_cmp op_gt od_gt ((by exact (pm_bi call_len cd_len (by rfl) (by exact E.n_len) (by exact (pma_cons ((by exact pm_var 2)) (by exact pma_nil)))))) (pm_int)))) (pm_int) (pm_int)))) (by exact pma_nil))) (by rfl) (by exact E.n_range)))) (by exact (pmg_name 5 (by exact S.nd))) (by exact (pms_cons (by exact pms_asg ((by exact (pm_ofL (by exact (pml_bi (CallR.or cr_sortedI cr_sortTI) cl_sort (by rfl) (by exact E.n_sorted) (by exact (pma_cons ((by exact (pm_ofL (by exact (pml_lst (by exact (pma_cons ((by exact (pm_call (k := 12) (ps := ["_law_deck_here", "_law_many"]) (by exact (fn_Llaw_draw E).up (by decide)) (by exact rq) (by rfl) (by exact E.m_Llaw_draw) (by exact E.F_Llaw_draw.kp) (by exact E.b_Llaw_draw) (by exact (pma_cons ((by exact pm_var 0)) (by exact (pma_cons ((by exact (pm_bi call_len cd_len (by rfl) (by exact E.n_len) (by exact (pma_cons ((by exact pm_var 2)) (by exact pma_nil)))))) (by exact pma_nil)))))))) (by exact (pma_cons ((by exact (pm_call (k := 12) (ps := ["_law_deck_here", "_law_many"]) (by exact (fn_Llaw_draw E).up (by decide)) (by exact rq) (by rfl) (by exact E.m_Llaw_draw) (by exact E.F_Llaw_draw.kp) (by exact E.b_Llaw_draw) (by exact (pma_cons ((by exact pm_var 0)) (by exact (pma_cons ((by exact (pm_bi call_len cd_len (by rfl) (by exact E.n_len) (by exact (pma_cons ((by exact pm_var 2)) (by exact pma_nil)))))) (by exact pma_nil)))))))) (by exact pma_nil)))))))))) (by exact pma_nil)))))))) (by exact (pmg_tup (by rfl) (by exact (pmgs_cons (by exact (pmg_name 7 (by exact S.nd))) (by exact (pmgs_cons (by exact (pmg_name 8 (by exact S.nd))) (by exact pmgs_nil)))))))) (by exact (pms_cons (by exact pms_set 6 ((by exact (pm_call (k := 12) (ps := ["throw", "a", "b"]) (by exact (fn_way_of E).up (by decide)) (by exact rq) (by rfl) (by exact E.m_way_of) (by exact E.F_way_of.kp) (by exact E.b_way_of) (by exact (pma_cons ((by exact pm_var 1)) (by exact (pma_cons ((by exact (pm_ix ((by exact pm_var 2)) ((by exact pm_var 7))))) (by exact (pma_cons ((by exact (pm_ix ((by exact pm_var 2)) ((by exact pm_var 8))))) (by exact pma_nil)))))))))) (by exact S.nd)) (by exact (pms_cons (by exact pms_if ((by exact (PMW.pmt (by exact (pmw_or ((by exact (pmt_cmp (by exact op_neA rq.room.units) od_ne ((by exact pm_var 6)) ((by exact (pm_call (k := 12) (ps := ["_law_throw_here", "_law_a", "_law_b"]) (by exact (fn_Llaw_way E).up (by decide)) (by exact rq) (by rfl) (by exact E.m_Llaw_way) (by exact E.F_Llaw_way.kp) (by exact E.b_Llaw_way) (by exact (pma_cons ((by exact pm_var 1)) (by exact (pma_cons ((by exact (pm_ix ((by exact pm_var 2)) ((by exact pm_var 7))))) (by exact (pma_cons ((by exact (pm_ix ((by exact pm_var 2)) ((by exact pm_var 8))))) (by exact pma_nil))))))))))))) (by exact (pmw_or1 ((by exact (PMW.pmt (by exact (pmw_and ((by exact (pmt_cmp (by exact op_neA rq.room.units) od_ne ((by exact pm_var 7)) ((by exact pm_var 8))))) (by exact (pmw_and1 ((by exact (pmt_cmp (by exact op_neA rq.room.units) od_ne ((by exact (pm_cmp op_lt od_lt ((by exact (pm_dGet 4 (by exact hu_of rq.room) ((by exact pm_var 7))))) ((by exact (pm_dGet 4 (by exact hu_of rq.room) ((by exact pm_var 8)))))))) ((by exact (pm_cmp op_in_seq od_in ((by exact pm_var 6)) ((by exact (pm_tup ((by exact (pma_cons (pm_str) (by exact (pma_cons (pm_str) (by exact pma_nil))))))))))))))))))))))))))))) (by exact (pms_cons (by exact pms_ret (pm_bl)) (by exact pms_nil))) pms_nil) (by exact pms_nil)))))))) (by exact (pms_cons (by exact pms_ret (pm_bl)) (by exact pms_nil)))))))))
theorem fn_Llaw_are_parts_right (E : Facts P w K mg base T) : FnQ P w K mg base CX0 13 E.f_Llaw_are_parts_right E.d_Llaw_are_parts_right ["_law_deck_here", "_law_throw_here", "_law_cards_here"] (spM K T 3 r_Llaw_are_parts_right) := by
  have S := sc_Llaw_are_parts_right
  have F := E.F_Llaw_are_parts_right
  refine FnM (N := ["_law_deck_here", "_law_throw_here", "_law_cards_here", "_law_order_here", "_law_some", "_law_due", "_law_more", "_law_at", "_law_card"]) (ps := ["_law_deck_here", "_law_throw_here", "_law_cards_here"]) (T := T) (k := 12) (body := b_Llaw_are_parts_right) F S fun cdv A below s H ex hco rq => ?_
  exact (by exact (pms_cons (by exact pms_set 3 ((by exact (pm_call (k := 12) (ps := ["throw", "deck"]) (by exact (fn_order_after E).up (by decide)) (by exact rq) (by rfl) (by exact E.m_order_after) (by exact E.F_order_after.kp) (by exact E.b_order_after) (by exact (pma_cons ((by exact pm_var 1)) (by exact (pma_cons ((by exact pm_var 2)) (by exact pma_nil)))))))) (by exact S.nd)) (by exact (pms_cons (by exact pms_own 4 (by exact (pml_lc (own := [("_law_at", 7)]) (by rfl) (by exact S.nd) ((by exact (pmi_range1 (by exact (pma_cons ((by exact (pm_bi call_len cd_len (by rfl) (by exact E.n_len) (by exact (pma_cons ((by exact pm_var 2)) (by exact pma_nil)))))) (by exact pma_nil))) (by rfl) (by exact E.n_range)))) (by exact blkOk_by (by rfl)) ⟨fun _ _ _ _ _ => (by exact (pmg_name 7 (by exact S.nd))), fun _ _ _ _ _ => (by exact (pmts_one ((by exact (pmt_cmp (by exact op_eqA rq.room.units) od_eq ((by exact (pm_call (k := 12) (ps := ["_law_deck_here", "_law_many"]) (by exact (fn_Llaw_draw E).up (by decide)) (by exact rq) (by rfl) (by exact E.m_Llaw_draw) (by exact E.F_Llaw_draw.kp) (by exact E.b_Llaw_draw) (by exact (pma_cons ((by exact pm_var 0)) (by exact (pma_cons (pm_int) (by exact pma_nil)))))))) (pm_int))))))⟩ (fun _ _ _ _ _ => (by exact pm_var 7)))) (by exact S.nd)) (by exact (pmss_frz 4 (by exact (pms_cons (by exact pms_set 5 ((by exact (pm_ty cr_tupF cd_tup (by rfl) (by exact E.n_tuple) (by exact (pma_cons ((by exact (pm_ofL (by exact (pml_lc (own := [("_law_card", 8)]) (by rfl) (by exact S.nd) ((by exact (pmi_seq ((by exact pm_var 3))))) (by exact blkOk_by (by rfl)) ⟨fun _ _ _ _ _ => (by exact (pmg_name 8 (by exact S.nd))), fun _ _ _ _ _ => (by exact (pmts_one ((by exact (pmt_cmp op_in_seq od_in ((by exact pm_var 8)) ((by exact pm_var 4)))))))⟩ (fun _ _ _ _ _ => (by exact (pm_index ((by exact pm_var 4)) (by exact (pma_cons ((by exact pm_var 8)) (by exact pma_nil))))))))))) (by exact pma_nil)))))) (by exact S.nd)) (by exact (pms_cons (by exact pms_if ((by exact (pmt_cmp (by exact op_neA rq.room.units) od_ne ((by exact (pm_bi (by exact cr_repr rq.quiet rq.room.units) cd_repr (by rfl) (by exact E.n_repr) (by exact (pma_cons ((by exact (pm_call (k := 12) (ps := ["throw", "deck"]) (by exact (fn_order_after E).up (by decide)) (by exact rq) (by rfl) (by exact E.m_order_after) (by exact E.F_order_after.kp) (by exact E.b_order_after) (by exact (pma_cons ((by exact pm_var 1)) (by exact (pma_cons ((by exact (pm_ty cr_tupF cd_tup (by rfl) (by exact E.n_tuple) (by exact (pma_cons ((by exact (pm_ofL (by exact (pml_lc (own := [("_law_at", 7)]) (by rfl) (by exact S.nd) ((by exact (pmi_seq ((by exact pm_var 4))))) (by exact blkOk_by (by rfl)) ⟨fun _ _ _ _ _ => (by exact (pmg_name 7 (by exact S.nd))), fun _ _ _ _ _ => pmts_nil⟩ (fun _ _ _ _ _ => (by exact (pm_ix ((by exact pm_var 2)) ((by exact pm_var 7)))))))))) (by exact pma_nil)))))) (by exact pma_nil)))))))) (by exact pma_nil)))))) ((by exact (pm_bi (by exact cr_repr rq.quiet rq.room.units) cd_repr (by rfl) (by exact E.n_repr) (by exact (pma_cons ((by exact pm_var 5)) (by exact pma_nil))))))))) (by exact (pms_cons (by exact pms_ret (pm_bl)) (by exact pms_nil))) pms_nil) (by exact (pms_cons (by exact pms_set 6 ((by exact (pm_op op_addD od_add ((by exact pm_var 2)) ((by exact (pm_call (k := 12) (ps := ["_law_deck_here", "_law_size_here", "_law_most"]) (by exact (fn_Llaw_cards E).up (by decide)) (by exact rq) (by rfl) (by exact E.m_Llaw_cards) (by exact E.F_Llaw_cards.kp) (by exact E.b_Llaw_cards) (by exact (pma_cons ((by exact pm_var 0)) (by exact (pma_cons ((by exact (pm_call (k := 12) (ps := ["_law_throw_here"]) (by exact (fn_Llaw_size E).up (by decide)) (by exact rq) (by rfl) (by exact E.m_Llaw_size) (by exact E.F_Llaw_size.kp) (by exact E.b_Llaw_size) (by exact (pma_cons ((by exact pm_var 1)) (by exact pma_nil)))))) (by exact (pma_cons ((by exact (pm_if ((by exact (pmt_cmp op_gt od_gt ((by exact (pm_bi call_len cd_len (by rfl) (by exact E.n_len) (by exact (pma_cons ((by exact pm_var 2)) (by exact pma_nil)))))) (pm_int)))) ((by exact (pm_op op_sub od_sub (pm_int) ((by exact (pm_bi call_len cd_len (by rfl) (by exact E.n_len) (by exact (pma_cons ((by exact pm_var 2)) (by exact pma_nil))))))))) (pm_int)))) (by exact pma_nil))))))))))))) (by exact S.nd)) (by exact (pms_cons (by exact pms_ret ((by exact (pm_cmp (by exact op_eqA rq.room.units) od_eq ((by exact (pm_bi (by exact cr_repr rq.quiet rq.room.units) cd_repr (by rfl) (by exact E.n_repr) (by exact (pma_cons ((by exact (pm_ty cr_tupF cd_tup (by rfl) (by exact E.n_tuple) (by exact (pma_cons ((by exact (pm_ofL (by exact (pml_lc (own := [("_law_card", 8)]) (by rfl) (by exact S.nd) ((by exact (pmi_seq ((by exact (pm_call (k := 12) (ps := ["throw", "deck"]) (by exact (fn_order_after E).up (by decide)) (by exact rq) (by rfl) (by exact E.m_order_after) (by exact E.F_order_after.kp) (by exact E.b_order_after) (by exact (pma_cons ((by exact pm_var 1)) (by exact (pma_cons ((by exact pm_var 6)) (by exact pma_nil))))))))))) (by exact blkOk_by (by rfl)) ⟨fun _ _ _ _ _ => (by exact (pmg_name 8 (by exact S.nd))), fun _ _ _ _ _ => (by exact (pmts_one ((by exact (pmt_cmp op_lt od_lt ((by exact pm_var 8)) ((by exact (pm_bi call_len cd_len (by rfl) (by exact E.n_len) (by exact (pma_cons ((by exact pm_var 2)) (by exact pma_nil)))))))))))⟩ (fun _ _ _ _ _ => (by exact pm_var 8))))))) (by exact pma_nil)))))) (by exact pma_nil)))))) ((by exact (pm_bi (by exact cr_repr rq.quiet rq.room.units) cd_repr (by rfl) (by exact E.n_repr) (by exact (pma_cons ((by exact pm_var 3)) (by exact pma_nil)))))))))) (by exact pms_nil)))))))))))))))
theorem fn_Llaw_are_plain_right (E : Facts P w K mg base T) : FnQ P w K mg base CX0 14 E.f_Llaw_are_plain_right E.d_Llaw_are_plain_right ["_law_throw_here", "_law_cards_here"] (spM K T 2 r_Llaw_are_plain_right) := by
  have S := sc_Llaw_are_plain_right
  have F := E.F_Llaw_are_plain_right
  refine FnM (N := ["_law_throw_here", "_law_cards_here", "_law_twice", "_law_size_here", "_law_row", "_law_near", "_law_due", "_law_lot", "_law_sign", "_law_at"]) (ps := ["_law_throw_here", "_law_cards_here"]) (T := T) (k := 13) (body := b_Llaw_are_plain_right) F S fun cdv A below s H ex hco rq => ?_
  exact (by exact (pms_cons (by exact pms_par (i := 3) (j := 4) (by rfl) (by exact S.nd) (by exact (pmx_dat ((by exact (pm_call (k := 13) (ps := ["_law_throw_here"]) (by exact (fn_Llaw_size E).up (by decide)) (by exact rq) (by rfl) (by exact E.m_Llaw_size) (by exact E.F_Llaw_size.kp) (by exact E.b_Llaw_size) (by exact (pma_cons ((by exact pm_var 0)) (by exact pma_nil)))))) (by exact (pmx_dat ((by exact (pm_tupRg (by rfl) ((by exact (pm_bi call_len cd_len (by rfl) (by exact E.n_len) (by exact (pma_cons ((by exact pm_var 1)) (by exact pma_nil)))))) (by rfl) (by exact E.n_tuple) (by rfl) (by exact E.n_range)))) (by exact pmx_nil)))))) (by exact (pms_cons (by exact pms_if ((by exact (pmt_cmp (by exact op_neA rq.room.units) od_ne ((by exact (pm_bi (by exact cr_repr rq.quiet rq.room.units) cd_repr (by rfl) (by exact E.n_repr) (by exact (pma_cons ((by exact (pm_tup ((by exact (pma_cons ((by exact (pm_call (k := 13) (ps := ["throw", "deck"]) (by exact (fn_order_after E).up (by decide)) (by exact rq) (by rfl) (by exact E.m_order_after) (by exact E.F_order_after.kp) (by exact E.b_order_after) (by exact (pma_cons ((by exact (pm_call (k := 13) (ps := ["size"]) (by exact (fn_still E).up (by decide)) (by exact rq) (by rfl) (by exact E.m_still) (by exact E.F_still.kp) (by exact E.b_still) (by exact (pma_cons ((by exact pm_var 3)) (by exact pma_nil)))))) (by exact (pma_cons ((by exact pm_var 1)) (by exact pma_nil)))))))) (by exact (pma_cons ((by exact (pm_call (k := 13) (ps := ["throw", "deck"]) (by exact (fn_order_after E).up (by decide)) (by exact rq) (by rfl) (by exact E.m_order_after) (by exact E.F_order_after.kp) (by exact E.b_order_after) (by exact (pma_cons ((by exact (pm_call (k := 13) (ps := ["size"]) (by exact (fn_turning E).up (by decide)) (by exact rq) (by rfl) (by exact E.m_turning) (by exact E.F_turning.kp) (by exact E.b_turning) (by exact (pma_cons ((by exact pm_var 3)) (by exact pma_nil)))))) (by exact (pma_cons ((by exact pm_var 1)) (by exact pma_nil)))))))) (by exact pma_nil))))))))) (by exact pma_nil)))))) ((by exact (pm_bi (by exact cr_repr rq.quiet rq.room.units) cd_repr (by rfl) (by exact E.n_repr) (by exact (pma_cons ((by exact (pm_tup ((by exact (pma_cons ((by exact pm_var 4)) (by exact (pma_cons ((by exact (pm_turn ((by exact pm_var 4))))) (by exact pma_nil))))))))) (by exact pma_nil))))))))) (by exact (pms_cons (by exact pms_ret (pm_bl)) (by exact pms_nil))) pms_nil) (by exact (pms_cons (by exact pms_if ((by exact (pmt_cmp (by exact op_neA rq.room.units) od_ne ((by exact (pm_bi (by exact cr_repr rq.quiet rq.room.units) cd_repr (by rfl) (by exact E.n_repr) (by exact (pma_cons ((by exact (pm_call (k := 13) (ps := ["throw", "deck"]) (by exact (fn_deck_after E).up (by decide)) (by exact rq) (by rfl) (by exact E.m_deck_after) (by exact E.F_deck_after.kp) (by exact E.b_deck_after) (by exact (pma_cons ((by exact (pm_call (k := 13) (ps := ["size"]) (by exact (fn_turning E).up (by decide)) (by exact rq) (by rfl) (by exact E.m_turning) (by exact E.F_turning.kp) (by exact E.b_turning) (by exact (pma_cons ((by exact pm_var 3)) (by exact pma_nil)))))) (by exact (pma_cons ((by exact pm_var 1)) (by exact pma_nil)))))))) (by exact pma_nil)))))) ((by exact (pm_bi (by exact cr_repr rq.quiet rq.room.units) cd_repr (by rfl) (by exact E.n_repr) (by exact (pma_cons ((by exact (pm_call (k := 13) (ps := ["deck", "order"]) (by exact (fn_laid E).up (by decide)) (by exact rq) (by rfl) (by exact E.m_laid) (by exact E.F_laid.kp) (by exact E.b_laid) (by exact (pma_cons ((by exact pm_var 1)) (by exact (pma_cons ((by exact (pm_call (k := 13) (ps := ["order"]) (by exact (fn_opposite E).up (by decide)) (by exact rq) (by rfl) (by exact E.m_opposite) (by exact E.F_opposite.kp) (by exact E.b_opposite) (by exact (pma_cons ((by exact pm_var 4)) (by exact pma_nil)))))) (by exact pma_nil)))))))) (by exact pma_nil))))))))) (by exact (pms_cons (by exact pms_ret (pm_bl)) (by exact pms_nil))) pms_nil) (by exact (pms_cons (by exact pms_par (i := 5) (j := 6) (by rfl) (by exact S.nd) (by exact (pmx_dat ((by exact (pm_call (k := 13) (ps := ["throw", "deck"]) (by exact (fn_deck_after E).up (by decide)) (by exact rq) (by rfl) (by exact E.m_deck_after) (by exact E.F_deck_after.kp) (by exact E.b_deck_after) (by exact (pma_cons ((by exact pm_var 0)) (by exact (pma_cons ((by exact pm_var 1)) (by exact pma_nil)))))))) (by exact (pmx_own (by exact (pml_lst pma_nil)) (by exact pmx_nil)))))) (by exact (pms_cons (by exact pms_set 2 ((by exact (pm_if ((by exact (pmt_cmp op_lt od_lt ((by exact (pm_bi call_len cd_len (by rfl) (by exact E.n_len) (by exact (pma_cons ((by exact pm_var 1)) (by exact pma_nil)))))) (pm_int)))) ((by exact (pm_call (k := 13) (ps := ["deck", "order"]) (by exact (fn_laid E).up (by decide)) (by exact rq) (by rfl) (by exact E.m_laid) (by exact E.F_laid.kp) (by exact E.b_laid) (by exact (pma_cons ((by exact (pm_call (k := 13) (ps := ["throw", "deck"]) (by exact (fn_order_after E).up (by decide)) (by exact rq) (by rfl) (by exact E.m_order_after) (by exact E.F_order_after.kp) (by exact E.b_order_after) (by exact (pma_cons ((by exact pm_var 0)) (by exact (pma_cons ((by exact pm_var 1)) (by exact pma_nil)))))))) (by exact (pma_cons ((by exact (pm_call (k := 13) (ps := ["throw", "deck"]) (by exact (fn_order_after E).up (by decide)) (by exact rq) (by rfl) (by exact E.m_order_after) (by exact E.F_order_after.kp) (by exact E.b_order_after) (by exact (pma_cons ((by exact pm_var 0)) (by exact (pma_cons ((by exact pm_var 5)) (by exact pma_nil)))))))) (by exact pma_nil)))))))) (pm_non)))) (by exact S.nd)) (by exact (pms_cons (by exact pms_for (by exact PassesOwn.never) (by rfl) ((by exact (pmi_seq ((by exact pm_var 0))))) (by exact (pmg_tup (by rfl) (by exact (pmgs_cons (by exact (pmg_name 7 (by exact S.nd))) (by exact (pmgs_cons (by exact (pmg_name 8 (by exact S.nd))) (by exact pmgs_nil))))))) (by exact (pms_cons (by exact pms_drop ((by exact (pm_mut 6 PySem.F.slot_list_extend PySem.F.type_list_extend mt_extend md_extend (by exact (pma_cons ((by exact (pm_ofL (by exact (pml_lc (own := [("_law_at", 9)]) (by rfl) (by exact S.nd) ((by exact (pmi_seq ((by exact pm_var 4))))) (by exact blkOk_by (by rfl)) ⟨fun _ _ _ _ _ => (by exact (pmg_name 9 (by exact S.nd))), fun _ _ _ _ _ => (by exact (pmts_one ((by exact (pmt_cmp op_in_seq od_in ((by exact (pm_ix ((by exact pm_var 1)) ((by exact pm_var 9))))) ((by exact pm_var 7)))))))⟩ (fun _ _ _ _ _ => (by exact pm_var 9))))))) (by exact pma_nil))))))) (by exact pms_nil)))) (by exact (pms_cons (by exact pms_if ((by exact (PMW.pmt (by exact (pmw_and ((by exact (pmt_cmp op_notN od_isn ((by exact pm_var 2)) (pm_non)))) (by exact (pmw_and1 ((by exact (pmt_cmp (by exact op_neA rq.room.units) od_ne ((by exact (pm_bi (by exact cr_repr rq.quiet rq.room.units) cd_repr (by rfl) (by exact E.n_repr) (by exact (pma_cons ((by exact pm_var 2)) (by exact pma_nil)))))) ((by exact (pm_bi (by exact cr_repr rq.quiet rq.room.units) cd_repr (by rfl) (by exact E.n_repr) (by exact (pma_cons ((by exact (pm_ty cr_tupF cd_tup (by rfl) (by exact E.n_tuple) (by exact (pma_cons ((by exact pm_var 6)) (by exact pma_nil)))))) (by exact pma_nil)))))))))))))))) (by exact (pms_cons (by exact pms_ret (pm_bl)) (by exact pms_nil))) pms_nil) (by exact (pms_cons (by exact pms_ret ((by exact (pm_cmp (by exact op_eqA rq.room.units) od_eq ((by exact (pm_bi (by exact cr_repr rq.quiet rq.room.units) cd_repr (by rfl) (by exact E.n_repr) (by exact (pma_cons ((by exact (pm_call (k := 13) (ps := ["throw", "deck"]) (by exact (fn_deck_after E).up (by decide)) (by exact rq) (by rfl) (by exact E.m_deck_after) (by exact E.F_deck_after.kp) (by exact E.b_deck_after) (by exact (pma_cons ((by exact pm_var 0)) (by exact (pma_cons ((by exact pm_var 5)) (by exact pma_nil)))))))) (by exact pma_nil)))))) ((by exact (pm_bi (by exact cr_repr rq.quiet rq.room.units) cd_repr (by rfl) (by exact E.n_repr) (by exact (pma_cons ((by exact (pm_ty cr_tupF cd_tup (by rfl) (by exact E.n_tuple) (by exact (pma_cons ((by exact (pm_ofL (by exact (pml_lc (own := [("_law_at", 9)]) (by rfl) (by exact S.nd) ((by exact (pmi_seq ((by exact pm_var 6))))) (by exact blkOk_by (by rfl)) ⟨fun _ _ _ _ _ => (by exact (pmg_name 9 (by exact S.nd))), fun _ _ _ _ _ => pmts_nil⟩ (fun _ _ _ _ _ => (by exact (pm_ix ((by exact pm_var 1)) ((by exact pm_var 9)))))))))) (by exact pma_nil)))))) (by exact pma_nil)))))))))) (by exact pms_nil)))))))))))))))))
theorem fn_Llaw_deck (E : Facts P w K mg base T) : FnQ P w K mg base CX0 1 E.f_Llaw_deck E.d_Llaw_deck ["_law_script"] (spDeck K 10894613 40692 2147483549 65 2147483563 63) := by
  have S := sc_Llaw_deck
  have F := E.F_Llaw_deck
  refine L2.Fun.okQ (N := ["_law_script", "_law_mixed", "_law_cell"]) (ps := ["_law_script"]) (k := 0) F S (fun vs H Q E h => by obtain ⟨a, ns, rfl, _⟩ := h; rfl) fun cdv A below s H vs Q ex hcd hco rq h => ⟨tDeck K 10894613 40692 2147483549 65 2147483563 63, ?_, tDeck_run (by decide) (by decide) (by decide) (by decide) (by decide) h⟩
  exact pss_cons (by exact ps_set (i := 1) S.nd rfl (.inl rfl) pe_int) (by exact pss_cons (by exact ps_for PassesOwn.never rfl (by exact pi_list (by exact (pe_slice sl_list (by exact pv 0) po_none (by exact po_some pe_int)))) (by exact pg_name (i := 2) S.nd rfl (.inl rfl)) (by exact pss_one (by exact ps_set (i := 1) S.nd rfl (.inl rfl) (by exact (pe_op op_mod (by exact (pe_callTy call_int1 (by rfl) (by exact E.n_int) (by decide +kernel) (by exact pa_cons (by exact pe_op op_add (by exact pe_op op_add (by exact pe_op op_mulW (by exact pv 1) pe_int) (by exact pe_op op_mod (by exact (pe_callTy call_int1 (by rfl) (by exact E.n_int) (by decide +kernel) (by exact pa_cons (by exact pv 2) pa_nil))) pe_int)) pe_int) pa_nil))) pe_int))))) (by exact pss_one (by exact ps_ret (by exact pe_disp (by exact pps_cons pe_str (by exact pe_revL (by exact pe_callTy call_list_of (by rfl) (by exact E.n_list) (by decide +kernel) (by exact pa_cons (by exact (pe_slice sl_list (by exact pv 0) po_none (by exact po_some pe_int))) pa_nil))) (by exact pps_cons pe_str (by exact pv 1) (by exact pps_cons pe_str pe_int pps_nil))) rfl rfl (by simp) (by decide)))))
theorem fn_law (E : Facts P w K mg base T) (math : ∀ s : S, s.draws = 0 → s.cells.length ≤ 63 → (∃ ns : List Int, s.mixed = mixAll 10894613 40692 2147483549 65 2147483563 ns) → ∃ st, b_law ⟨s, lawR s.dk 3⟩ = some (.rt (.bl true), st)) : FnQ P w K mg base CX0 15 E.f_law E.d_law ["_law_script"] (spLaw K T) := by
  have S := sc_law
  have F := E.F_law
  refine L2.Fun.okQ (N := ["_law_script", "_law_deck_here", "_law_turn", "_law_throw_here", "_law_cards_here"]) (ps := ["_law_script"]) (k := 14) F S (fun vs H Q E h => by obtain ⟨a, ns, rfl, _⟩ := h; rfl) fun cdv A below s H vs Q ex hcd hco rq h => ?_
  have PM : PMSs T (cxOf CX0 P w K mg base ["_law_script", "_law_deck_here", "_law_turn", "_law_throw_here", "_law_cards_here"] "law" (defScope s_law) E.f_law cdv A below s H ex).nox (defBody s_law).tail b_law := (by exact (pms_cons (by exact pms_for (by exact PassesOwn.never) (by rfl) ((by exact (pmi_range1 (by exact (pma_cons (pm_int) (by exact pma_nil))) (by rfl) (by exact E.n_range)))) (by exact (pmg_name 2 (by exact S.nd))) (by exact (pms_cons (by exact pms_set 3 ((by exact (pm_call (k := 14) (ps := ["_law_deck_here", "_law_size_here"]) (by exact (fn_Llaw_throw E).up (by decide)) (by exact rq) (by rfl) (by exact E.m_Llaw_throw) (by exact E.F_Llaw_throw.kp) (by exact E.b_Llaw_throw) (by exact (pma_cons ((by exact pm_var 1)) (by exact (pma_cons ((by exact (pm_op op_addD od_add (pm_int) ((by exact (pm_call (k := 14) (ps := ["_law_deck_here", "_law_many"]) (by exact (fn_Llaw_draw E).up (by decide)) (by exact rq) (by rfl) (by exact E.m_Llaw_draw) (by exact E.F_Llaw_draw.kp) (by exact E.b_Llaw_draw) (by exact (pma_cons ((by exact pm_var 1)) (by exact (pma_cons (pm_int) (by exact pma_nil))))))))))) (by exact pma_nil)))))))) (by exact S.nd)) (by exact (pms_cons (by exact pms_set 4 ((by exact (pm_call (k := 14) (ps := ["_law_deck_here", "_law_size_here", "_law_most"]) (by exact (fn_Llaw_cards E).up (by decide)) (by exact rq) (by rfl) (by exact E.m_Llaw_cards) (by exact E.F_Llaw_cards.kp) (by exact E.b_Llaw_cards) (by exact (pma_cons ((by exact pm_var 1)) (by exact (pma_cons ((by exact (pm_call (k := 14) (ps := ["_law_throw_here"]) (by exact (fn_Llaw_size E).up (by decide)) (by exact rq) (by rfl) (by exact E.m_Llaw_size) (by exact E.F_Llaw_size.kp) (by exact E.b_Llaw_size) (by exact (pma_cons ((by exact pm_var 3)) (by exact pma_nil)))))) (by exact (pma_cons ((by exact (pm_if ((by exact (pmt_cmp (by exact op_eqA rq.room.units) od_eq ((by exact (pm_call (k := 14) (ps := ["_law_deck_here", "_law_many"]) (by exact (fn_Llaw_draw E).up (by decide)) (by exact rq) (by rfl) (by exact E.m_Llaw_draw) (by exact E.F_Llaw_draw.kp) (by exact E.b_Llaw_draw) (by exact (pma_cons ((by exact pm_var 1)) (by exact (pma_cons (pm_int) (by exact pma_nil)))))))) (pm_int)))) (pm_int) ((by exact (pm_call (k := 14) (ps := ["_law_deck_here", "_law_some"]) (by exact (fn_Llaw_pick E).up (by decide)) (by exact rq) (by rfl) (by exact E.m_Llaw_pick) (by exact E.F_Llaw_pick.kp) (by exact E.b_Llaw_pick) (by exact (pma_cons ((by exact pm_var 1)) (by exact (pma_cons ((by exact (pm_tup ((by exact (pma_cons (pm_int) (by exact (pma_cons (pm_int) (by exact (pma_cons (pm_int) (by exact pma_nil))))))))))) (by exact pma_nil))))))))))) (by exact pma_nil)))))))))) (by exact S.nd)) (by exact (pms_cons (by exact pms_if ((by exact (PMW.pmt (by exact (pmw_or ((by exact (pmt_not ((by exact (pmt_val ((by exact (pm_call (k := 14) (ps := ["_law_throw_here", "_law_cards_here"]) (by exact (fn_Llaw_is_after_right E).up (by decide)) (by exact rq) (by rfl) (by exact E.m_Llaw_is_after_right) (by exact E.F_Llaw_is_after_right.kp) (by exact E.b_Llaw_is_after_right) (by exact (pma_cons ((by exact pm_var 3)) (by exact (pma_cons ((by exact pm_var 4)) (by exact pma_nil)))))))))))))) (by exact (pmw_or1 ((by exact (pmt_not ((by exact (pmt_val ((by exact (pm_call (k := 14) (ps := ["_law_deck_here", "_law_throw_here", "_law_cards_here"]) (by exact (fn_Llaw_are_twos_right E).up (by decide)) (by exact rq) (by rfl) (by exact E.m_Llaw_are_twos_right) (by exact E.F_Llaw_are_twos_right.kp) (by exact E.b_Llaw_are_twos_right) (by exact (pma_cons ((by exact pm_var 1)) (by exact (pma_cons ((by exact pm_var 3)) (by exact (pma_cons ((by exact pm_var 4)) (by exact pma_nil))))))))))))))))))))))) (by exact (pms_cons (by exact pms_ret (pm_bl)) (by exact pms_nil))) pms_nil) (by exact (pms_cons (by exact pms_if ((by exact (PMW.pmt (by exact (pmw_or ((by exact (pmt_not ((by exact (pmt_val ((by exact (pm_call (k := 14) (ps := ["_law_deck_here", "_law_throw_here", "_law_cards_here"]) (by exact (fn_Llaw_are_parts_right E).up (by decide)) (by exact rq) (by rfl) (by exact E.m_Llaw_are_parts_right) (by exact E.F_Llaw_are_parts_right.kp) (by exact E.b_Llaw_are_parts_right) (by exact (pma_cons ((by exact pm_var 1)) (by exact (pma_cons ((by exact pm_var 3)) (by exact (pma_cons ((by exact pm_var 4)) (by exact pma_nil)))))))))))))))) (by exact (pmw_or1 ((by exact (pmt_not ((by exact (pmt_val ((by exact (pm_call (k := 14) (ps := ["_law_throw_here", "_law_cards_here"]) (by exact (fn_Llaw_are_plain_right E).up (by decide)) (by exact rq) (by rfl) (by exact E.m_Llaw_are_plain_right) (by exact E.F_Llaw_are_plain_right.kp) (by exact E.b_Llaw_are_plain_right) (by exact (pma_cons ((by exact pm_var 3)) (by exact (pma_cons ((by exact pm_var 4)) (by exact pma_nil))))))))))))))))))))) (by exact (pms_cons (by exact pms_ret (pm_bl)) (by exact pms_nil))) pms_nil) (by exact pms_nil)))))))))) (by exact (pms_cons (by exact pms_ret (pm_bl)) (by exact pms_nil)))))
  obtain ⟨t, pt, ht⟩ := PM.ex
  refine ⟨_, pss_cons (by exact ps_set (i := 1) S.nd rfl (by first | exact .inl rfl | exact .inr rfl) (by exact pe_callq (k := 14) (ps := ["_law_script"]) (E := E0) (by exact (fn_Llaw_deck E).up (by decide)) (by exact rq) (by rfl) (by exact E.m_Llaw_deck) (by exact E.F_Llaw_deck.kp) (by exact E.b_Llaw_deck) (by exact pass0) (by exact pa_cons (by exact pv 0) pa_nil))) pt, ?_⟩
  exact law_run rfl ht math h
theorem all_mk {l : PySem.W.OpenLaw} {q : Program} {w : World} {K : PySem.W.Frag} {h : Heap} {mg : Str → Option Value} {fa : Addr} (X : K.In h) (G : h.Ns mainGlobals mg) (hfa : mg "law" = some (.ref fa)) (own : ∀ (nm : Str) (ga : Addr), ((recsOf q).any fun e => e.name == nm) = true → mg nm = some (.ref ga) → LamX.OwnTab K ga h)
    (math : ∀ s : S, s.draws = 0 → s.cells.length ≤ 63 → (∃ ns : List Int, s.mixed = mixAll 10894613 40692 2147483549 65 2147483563 ns) → ∃ st, b_law ⟨s, lawR s.dk 3⟩ = some (.rt (.bl true), st))
    {f_is_integer : Addr} {od_is_integer an_is_integer : Option Addr} {sl_is_integer : Array (Option Value)} {oc_is_integer kV_is_integer dc_is_integer pm_is_integer ct_is_integer cd_is_integer : Value}
    (a_is_integer : PySem.W.nsIn K mainGlobals "is_integer" = some (some (.ref f_is_integer))) (l_is_integer : K.lookup f_is_integer = some ⟨oc_is_integer, od_is_integer, .func (PySem.W.fnOf "is_integer" "is_integer" (defArgs s_is_integer) (defBody s_is_integer) (defScope s_is_integer) .none kV_is_integer dc_is_integer pm_is_integer an_is_integer cd_is_integer ct_is_integer), sl_is_integer⟩) (c_is_integer : PySem.W.codeIn K cd_is_integer "is_integer" = true) (k_is_integer : PySem.W.keepIn K (.ref f_is_integer) = true)
    {f_is_within : Addr} {od_is_within an_is_within : Option Addr} {sl_is_within : Array (Option Value)} {oc_is_within kV_is_within dc_is_within pm_is_within ct_is_within cd_is_within : Value}
    (a_is_within : PySem.W.nsIn K mainGlobals "is_within" = some (some (.ref f_is_within))) (l_is_within : K.lookup f_is_within = some ⟨oc_is_within, od_is_within, .func (PySem.W.fnOf "is_within" "is_within" (defArgs s_is_within) (defBody s_is_within) (defScope s_is_within) .none kV_is_within dc_is_within pm_is_within an_is_within cd_is_within ct_is_within), sl_is_within⟩) (c_is_within : PySem.W.codeIn K cd_is_within "is_within" = true) (k_is_within : PySem.W.keepIn K (.ref f_is_within) = true)
    {f_is_size : Addr} {od_is_size an_is_size : Option Addr} {sl_is_size : Array (Option Value)} {oc_is_size kV_is_size dc_is_size pm_is_size ct_is_size cd_is_size : Value}
    (a_is_size : PySem.W.nsIn K mainGlobals "is_size" = some (some (.ref f_is_size))) (l_is_size : K.lookup f_is_size = some ⟨oc_is_size, od_is_size, .func (PySem.W.fnOf "is_size" "is_size" (defArgs s_is_size) (defBody s_is_size) (defScope s_is_size) .none kV_is_size dc_is_size pm_is_size an_is_size cd_is_size ct_is_size), sl_is_size⟩) (c_is_size : PySem.W.codeIn K cd_is_size "is_size" = true) (k_is_size : PySem.W.keepIn K (.ref f_is_size) = true)
    {f_is_kind : Addr} {od_is_kind an_is_kind : Option Addr} {sl_is_kind : Array (Option Value)} {oc_is_kind kV_is_kind dc_is_kind pm_is_kind ct_is_kind cd_is_kind : Value}
    (a_is_kind : PySem.W.nsIn K mainGlobals "is_kind" = some (some (.ref f_is_kind))) (l_is_kind : K.lookup f_is_kind = some ⟨oc_is_kind, od_is_kind, .func (PySem.W.fnOf "is_kind" "is_kind" (defArgs s_is_kind) (defBody s_is_kind) (defScope s_is_kind) .none kV_is_kind dc_is_kind pm_is_kind an_is_kind cd_is_kind ct_is_kind), sl_is_kind⟩) (c_is_kind : PySem.W.codeIn K cd_is_kind "is_kind" = true) (k_is_kind : PySem.W.keepIn K (.ref f_is_kind) = true)
    {f_are_kinds : Addr} {od_are_kinds an_are_kinds : Option Addr} {sl_are_kinds : Array (Option Value)} {oc_are_kinds kV_are_kinds dc_are_kinds pm_are_kinds ct_are_kinds oe_are_kinds : Value} {tc_are_kinds tp_are_kinds : Addr} {dd_are_kinds : Option Addr} {vs_are_kinds : Array Value} {sm_are_kinds : Array (Option Value)}
    (a_are_kinds : PySem.W.nsIn K mainGlobals "are_kinds" = some (some (.ref f_are_kinds))) (l_are_kinds : K.lookup f_are_kinds = some ⟨oc_are_kinds, od_are_kinds, .func (PySem.W.fnOf "are_kinds" "are_kinds" (defArgs s_are_kinds) (defBody s_are_kinds) (defScope s_are_kinds) .none kV_are_kinds dc_are_kinds pm_are_kinds an_are_kinds (.ref tc_are_kinds) ct_are_kinds), sl_are_kinds⟩) (c_are_kinds : PySem.W.codeIn K (.ref tc_are_kinds) "are_kinds" = true) (k_are_kinds : PySem.W.keepIn K (.ref f_are_kinds) = true)
    (lc_are_kinds : K.lookup tc_are_kinds = some ⟨oe_are_kinds, dd_are_kinds, .fields vs_are_kinds, sm_are_kinds⟩) (pe_are_kinds : vs_are_kinds[11]? = some (.ref tp_are_kinds)) (hd_are_kinds : PySem.W.codeHdIn K tc_are_kinds tp_are_kinds = true) (np_are_kinds : K.lookup tp_are_kinds = none) (rc_are_kinds : ((recsOf q).any fun e => e.name == ("are_kinds" : Str)) = true)
    {f_is_ascending : Addr} {od_is_ascending an_is_ascending : Option Addr} {sl_is_ascending : Array (Option Value)} {oc_is_ascending kV_is_ascending dc_is_ascending pm_is_ascending ct_is_ascending cd_is_ascending : Value}
    (a_is_ascending : PySem.W.nsIn K mainGlobals "is_ascending" = some (some (.ref f_is_ascending))) (l_is_ascending : K.lookup f_is_ascending = some ⟨oc_is_ascending, od_is_ascending, .func (PySem.W.fnOf "is_ascending" "is_ascending" (defArgs s_is_ascending) (defBody s_is_ascending) (defScope s_is_ascending) .none kV_is_ascending dc_is_ascending pm_is_ascending an_is_ascending cd_is_ascending ct_is_ascending), sl_is_ascending⟩) (c_is_ascending : PySem.W.codeIn K cd_is_ascending "is_ascending" = true) (k_is_ascending : PySem.W.keepIn K (.ref f_is_ascending) = true)
    {f_need_size : Addr} {od_need_size an_need_size : Option Addr} {sl_need_size : Array (Option Value)} {oc_need_size kV_need_size dc_need_size pm_need_size ct_need_size cd_need_size : Value}
    (a_need_size : PySem.W.nsIn K mainGlobals "need_size" = some (some (.ref f_need_size))) (l_need_size : K.lookup f_need_size = some ⟨oc_need_size, od_need_size, .func (PySem.W.fnOf "need_size" "need_size" (defArgs s_need_size) (defBody s_need_size) (defScope s_need_size) .none kV_need_size dc_need_size pm_need_size an_need_size cd_need_size ct_need_size), sl_need_size⟩) (c_need_size : PySem.W.codeIn K cd_need_size "need_size" = true) (k_need_size : PySem.W.keepIn K (.ref f_need_size) = true)
    {f_need_kind : Addr} {od_need_kind an_need_kind : Option Addr} {sl_need_kind : Array (Option Value)} {oc_need_kind kV_need_kind dc_need_kind pm_need_kind ct_need_kind cd_need_kind : Value}
    (a_need_kind : PySem.W.nsIn K mainGlobals "need_kind" = some (some (.ref f_need_kind))) (l_need_kind : K.lookup f_need_kind = some ⟨oc_need_kind, od_need_kind, .func (PySem.W.fnOf "need_kind" "need_kind" (defArgs s_need_kind) (defBody s_need_kind) (defScope s_need_kind) .none kV_need_kind dc_need_kind pm_need_kind an_need_kind cd_need_kind ct_need_kind), sl_need_kind⟩) (c_need_kind : PySem.W.codeIn K cd_need_kind "need_kind" = true) (k_need_kind : PySem.W.keepIn K (.ref f_need_kind) = true)
    {f_need_number : Addr} {od_need_number an_need_number : Option Addr} {sl_need_number : Array (Option Value)} {oc_need_number kV_need_number dc_need_number pm_need_number ct_need_number cd_need_number : Value}
    (a_need_number : PySem.W.nsIn K mainGlobals "need_number" = some (some (.ref f_need_number))) (l_need_number : K.lookup f_need_number = some ⟨oc_need_number, od_need_number, .func (PySem.W.fnOf "need_number" "need_number" (defArgs s_need_number) (defBody s_need_number) (defScope s_need_number) .none kV_need_number dc_need_number pm_need_number an_need_number cd_need_number ct_need_number), sl_need_number⟩) (c_need_number : PySem.W.codeIn K cd_need_number "need_number" = true) (k_need_number : PySem.W.keepIn K (.ref f_need_number) = true)
    {f_is_deck : Addr} {od_is_deck an_is_deck : Option Addr} {sl_is_deck : Array (Option Value)} {oc_is_deck kV_is_deck dc_is_deck pm_is_deck ct_is_deck oe_is_deck : Value} {tc_is_deck tp_is_deck : Addr} {dd_is_deck : Option Addr} {vs_is_deck : Array Value} {sm_is_deck : Array (Option Value)}
    (a_is_deck : PySem.W.nsIn K mainGlobals "is_deck" = some (some (.ref f_is_deck))) (l_is_deck : K.lookup f_is_deck = some ⟨oc_is_deck, od_is_deck, .func (PySem.W.fnOf "is_deck" "is_deck" (defArgs s_is_deck) (defBody s_is_deck) (defScope s_is_deck) .none kV_is_deck dc_is_deck pm_is_deck an_is_deck (.ref tc_is_deck) ct_is_deck), sl_is_deck⟩) (c_is_deck : PySem.W.codeIn K (.ref tc_is_deck) "is_deck" = true) (k_is_deck : PySem.W.keepIn K (.ref f_is_deck) = true)
    (lc_is_deck : K.lookup tc_is_deck = some ⟨oe_is_deck, dd_is_deck, .fields vs_is_deck, sm_is_deck⟩) (pe_is_deck : vs_is_deck[11]? = some (.ref tp_is_deck)) (hd_is_deck : PySem.W.codeHdIn K tc_is_deck tp_is_deck = true) (np_is_deck : K.lookup tp_is_deck = none) (rc_is_deck : ((recsOf q).any fun e => e.name == ("is_deck" : Str)) = true)
    {f_is_order : Addr} {od_is_order an_is_order : Option Addr} {sl_is_order : Array (Option Value)} {oc_is_order kV_is_order dc_is_order pm_is_order ct_is_order oe_is_order : Value} {tc_is_order tp_is_order : Addr} {dd_is_order : Option Addr} {vs_is_order : Array Value} {sm_is_order : Array (Option Value)}
    (a_is_order : PySem.W.nsIn K mainGlobals "is_order" = some (some (.ref f_is_order))) (l_is_order : K.lookup f_is_order = some ⟨oc_is_order, od_is_order, .func (PySem.W.fnOf "is_order" "is_order" (defArgs s_is_order) (defBody s_is_order) (defScope s_is_order) .none kV_is_order dc_is_order pm_is_order an_is_order (.ref tc_is_order) ct_is_order), sl_is_order⟩) (c_is_order : PySem.W.codeIn K (.ref tc_is_order) "is_order" = true) (k_is_order : PySem.W.keepIn K (.ref f_is_order) = true)
    (lc_is_order : K.lookup tc_is_order = some ⟨oe_is_order, dd_is_order, .fields vs_is_order, sm_is_order⟩) (pe_is_order : vs_is_order[11]? = some (.ref tp_is_order)) (hd_is_order : PySem.W.codeHdIn K tc_is_order tp_is_order = true) (np_is_order : K.lookup tp_is_order = none) (rc_is_order : ((recsOf q).any fun e => e.name == ("is_order" : Str)) = true)
    {f_need_deck : Addr} {od_need_deck an_need_deck : Option Addr} {sl_need_deck : Array (Option Value)} {oc_need_deck kV_need_deck dc_need_deck pm_need_deck ct_need_deck cd_need_deck : Value}
    (a_need_deck : PySem.W.nsIn K mainGlobals "need_deck" = some (some (.ref f_need_deck))) (l_need_deck : K.lookup f_need_deck = some ⟨oc_need_deck, od_need_deck, .func (PySem.W.fnOf "need_deck" "need_deck" (defArgs s_need_deck) (defBody s_need_deck) (defScope s_need_deck) .none kV_need_deck dc_need_deck pm_need_deck an_need_deck cd_need_deck ct_need_deck), sl_need_deck⟩) (c_need_deck : PySem.W.codeIn K cd_need_deck "need_deck" = true) (k_need_deck : PySem.W.keepIn K (.ref f_need_deck) = true)
    {f_need_order : Addr} {od_need_order an_need_order : Option Addr} {sl_need_order : Array (Option Value)} {oc_need_order kV_need_order dc_need_order pm_need_order ct_need_order cd_need_order : Value}
    (a_need_order : PySem.W.nsIn K mainGlobals "need_order" = some (some (.ref f_need_order))) (l_need_order : K.lookup f_need_order = some ⟨oc_need_order, od_need_order, .func (PySem.W.fnOf "need_order" "need_order" (defArgs s_need_order) (defBody s_need_order) (defScope s_need_order) .none kV_need_order dc_need_order pm_need_order an_need_order cd_need_order ct_need_order), sl_need_order⟩) (c_need_order : PySem.W.codeIn K cd_need_order "need_order" = true) (k_need_order : PySem.W.keepIn K (.ref f_need_order) = true)
    {f_need_some_order : Addr} {od_need_some_order an_need_some_order : Option Addr} {sl_need_some_order : Array (Option Value)} {oc_need_some_order kV_need_some_order dc_need_some_order pm_need_some_order ct_need_some_order cd_need_some_order : Value}
    (a_need_some_order : PySem.W.nsIn K mainGlobals "need_some_order" = some (some (.ref f_need_some_order))) (l_need_some_order : K.lookup f_need_some_order = some ⟨oc_need_some_order, od_need_some_order, .func (PySem.W.fnOf "need_some_order" "need_some_order" (defArgs s_need_some_order) (defBody s_need_some_order) (defScope s_need_some_order) .none kV_need_some_order dc_need_some_order pm_need_some_order an_need_some_order cd_need_some_order ct_need_some_order), sl_need_some_order⟩) (c_need_some_order : PySem.W.codeIn K cd_need_some_order "need_some_order" = true) (k_need_some_order : PySem.W.keepIn K (.ref f_need_some_order) = true)
    {f_laid : Addr} {od_laid an_laid : Option Addr} {sl_laid : Array (Option Value)} {oc_laid kV_laid dc_laid pm_laid ct_laid cd_laid : Value}
    (a_laid : PySem.W.nsIn K mainGlobals "laid" = some (some (.ref f_laid))) (l_laid : K.lookup f_laid = some ⟨oc_laid, od_laid, .func (PySem.W.fnOf "laid" "laid" (defArgs s_laid) (defBody s_laid) (defScope s_laid) .none kV_laid dc_laid pm_laid an_laid cd_laid ct_laid), sl_laid⟩) (c_laid : PySem.W.codeIn K cd_laid "laid" = true) (k_laid : PySem.W.keepIn K (.ref f_laid) = true)
    {f_opposite : Addr} {od_opposite an_opposite : Option Addr} {sl_opposite : Array (Option Value)} {oc_opposite kV_opposite dc_opposite pm_opposite ct_opposite cd_opposite : Value}
    (a_opposite : PySem.W.nsIn K mainGlobals "opposite" = some (some (.ref f_opposite))) (l_opposite : K.lookup f_opposite = some ⟨oc_opposite, od_opposite, .func (PySem.W.fnOf "opposite" "opposite" (defArgs s_opposite) (defBody s_opposite) (defScope s_opposite) .none kV_opposite dc_opposite pm_opposite an_opposite cd_opposite ct_opposite), sl_opposite⟩) (c_opposite : PySem.W.codeIn K cd_opposite "opposite" = true) (k_opposite : PySem.W.keepIn K (.ref f_opposite) = true)
    {f_counts_of : Addr} {od_counts_of an_counts_of : Option Addr} {sl_counts_of : Array (Option Value)} {oc_counts_of kV_counts_of dc_counts_of pm_counts_of ct_counts_of cd_counts_of : Value}
    (a_counts_of : PySem.W.nsIn K mainGlobals "counts_of" = some (some (.ref f_counts_of))) (l_counts_of : K.lookup f_counts_of = some ⟨oc_counts_of, od_counts_of, .func (PySem.W.fnOf "counts_of" "counts_of" (defArgs s_counts_of) (defBody s_counts_of) (defScope s_counts_of) .none kV_counts_of dc_counts_of pm_counts_of an_counts_of cd_counts_of ct_counts_of), sl_counts_of⟩) (c_counts_of : PySem.W.codeIn K cd_counts_of "counts_of" = true) (k_counts_of : PySem.W.keepIn K (.ref f_counts_of) = true)
    {f_is_lot : Addr} {od_is_lot an_is_lot : Option Addr} {sl_is_lot : Array (Option Value)} {oc_is_lot kV_is_lot dc_is_lot pm_is_lot ct_is_lot cd_is_lot : Value}
    (a_is_lot : PySem.W.nsIn K mainGlobals "is_lot" = some (some (.ref f_is_lot))) (l_is_lot : K.lookup f_is_lot = some ⟨oc_is_lot, od_is_lot, .func (PySem.W.fnOf "is_lot" "is_lot" (defArgs s_is_lot) (defBody s_is_lot) (defScope s_is_lot) .none kV_is_lot dc_is_lot pm_is_lot an_is_lot cd_is_lot ct_is_lot), sl_is_lot⟩) (c_is_lot : PySem.W.codeIn K cd_is_lot "is_lot" = true) (k_is_lot : PySem.W.keepIn K (.ref f_is_lot) = true)
    {f_is_signed_lot : Addr} {od_is_signed_lot an_is_signed_lot : Option Addr} {sl_is_signed_lot : Array (Option Value)} {oc_is_signed_lot kV_is_signed_lot dc_is_signed_lot pm_is_signed_lot ct_is_signed_lot cd_is_signed_lot : Value}
    (a_is_signed_lot : PySem.W.nsIn K mainGlobals "is_signed_lot" = some (some (.ref f_is_signed_lot))) (l_is_signed_lot : K.lookup f_is_signed_lot = some ⟨oc_is_signed_lot, od_is_signed_lot, .func (PySem.W.fnOf "is_signed_lot" "is_signed_lot" (defArgs s_is_signed_lot) (defBody s_is_signed_lot) (defScope s_is_signed_lot) .none kV_is_signed_lot dc_is_signed_lot pm_is_signed_lot an_is_signed_lot cd_is_signed_lot ct_is_signed_lot), sl_is_signed_lot⟩) (c_is_signed_lot : PySem.W.codeIn K cd_is_signed_lot "is_signed_lot" = true) (k_is_signed_lot : PySem.W.keepIn K (.ref f_is_signed_lot) = true)
    {f_is_throw : Addr} {od_is_throw an_is_throw : Option Addr} {sl_is_throw : Array (Option Value)} {oc_is_throw kV_is_throw dc_is_throw pm_is_throw ct_is_throw oe_is_throw : Value} {tc_is_throw tp_is_throw : Addr} {dd_is_throw : Option Addr} {vs_is_throw : Array Value} {sm_is_throw : Array (Option Value)}
    (a_is_throw : PySem.W.nsIn K mainGlobals "is_throw" = some (some (.ref f_is_throw))) (l_is_throw : K.lookup f_is_throw = some ⟨oc_is_throw, od_is_throw, .func (PySem.W.fnOf "is_throw" "is_throw" (defArgs s_is_throw) (defBody s_is_throw) (defScope s_is_throw) .none kV_is_throw dc_is_throw pm_is_throw an_is_throw (.ref tc_is_throw) ct_is_throw), sl_is_throw⟩) (c_is_throw : PySem.W.codeIn K (.ref tc_is_throw) "is_throw" = true) (k_is_throw : PySem.W.keepIn K (.ref f_is_throw) = true)
    (lc_is_throw : K.lookup tc_is_throw = some ⟨oe_is_throw, dd_is_throw, .fields vs_is_throw, sm_is_throw⟩) (pe_is_throw : vs_is_throw[11]? = some (.ref tp_is_throw)) (hd_is_throw : PySem.W.codeHdIn K tc_is_throw tp_is_throw = true) (np_is_throw : K.lookup tp_is_throw = none) (rc_is_throw : ((recsOf q).any fun e => e.name == ("is_throw" : Str)) = true)
    {f_need_throw : Addr} {od_need_throw an_need_throw : Option Addr} {sl_need_throw : Array (Option Value)} {oc_need_throw kV_need_throw dc_need_throw pm_need_throw ct_need_throw cd_need_throw : Value}
    (a_need_throw : PySem.W.nsIn K mainGlobals "need_throw" = some (some (.ref f_need_throw))) (l_need_throw : K.lookup f_need_throw = some ⟨oc_need_throw, od_need_throw, .func (PySem.W.fnOf "need_throw" "need_throw" (defArgs s_need_throw) (defBody s_need_throw) (defScope s_need_throw) .none kV_need_throw dc_need_throw pm_need_throw an_need_throw cd_need_throw ct_need_throw), sl_need_throw⟩) (c_need_throw : PySem.W.codeIn K cd_need_throw "need_throw" = true) (k_need_throw : PySem.W.keepIn K (.ref f_need_throw) = true)
    {f_size_of : Addr} {od_size_of an_size_of : Option Addr} {sl_size_of : Array (Option Value)} {oc_size_of kV_size_of dc_size_of pm_size_of ct_size_of cd_size_of : Value}
    (a_size_of : PySem.W.nsIn K mainGlobals "size_of" = some (some (.ref f_size_of))) (l_size_of : K.lookup f_size_of = some ⟨oc_size_of, od_size_of, .func (PySem.W.fnOf "size_of" "size_of" (defArgs s_size_of) (defBody s_size_of) (defScope s_size_of) .none kV_size_of dc_size_of pm_size_of an_size_of cd_size_of ct_size_of), sl_size_of⟩) (c_size_of : PySem.W.codeIn K cd_size_of "size_of" = true) (k_size_of : PySem.W.keepIn K (.ref f_size_of) = true)
    {f_still : Addr} {od_still an_still : Option Addr} {sl_still : Array (Option Value)} {oc_still kV_still dc_still pm_still ct_still cd_still : Value}
    (a_still : PySem.W.nsIn K mainGlobals "still" = some (some (.ref f_still))) (l_still : K.lookup f_still = some ⟨oc_still, od_still, .func (PySem.W.fnOf "still" "still" (defArgs s_still) (defBody s_still) (defScope s_still) .none kV_still dc_still pm_still an_still cd_still ct_still), sl_still⟩) (c_still : PySem.W.codeIn K cd_still "still" = true) (k_still : PySem.W.keepIn K (.ref f_still) = true)
    {f_turning : Addr} {od_turning an_turning : Option Addr} {sl_turning : Array (Option Value)} {oc_turning kV_turning dc_turning pm_turning ct_turning cd_turning : Value}
    (a_turning : PySem.W.nsIn K mainGlobals "turning" = some (some (.ref f_turning))) (l_turning : K.lookup f_turning = some ⟨oc_turning, od_turning, .func (PySem.W.fnOf "turning" "turning" (defArgs s_turning) (defBody s_turning) (defScope s_turning) .none kV_turning dc_turning pm_turning an_turning cd_turning ct_turning), sl_turning⟩) (c_turning : PySem.W.codeIn K cd_turning "turning" = true) (k_turning : PySem.W.keepIn K (.ref f_turning) = true)
    {f_position_in : Addr} {od_position_in an_position_in : Option Addr} {sl_position_in : Array (Option Value)} {oc_position_in kV_position_in dc_position_in pm_position_in ct_position_in cd_position_in : Value}
    (a_position_in : PySem.W.nsIn K mainGlobals "position_in" = some (some (.ref f_position_in))) (l_position_in : K.lookup f_position_in = some ⟨oc_position_in, od_position_in, .func (PySem.W.fnOf "position_in" "position_in" (defArgs s_position_in) (defBody s_position_in) (defScope s_position_in) .none kV_position_in dc_position_in pm_position_in an_position_in cd_position_in ct_position_in), sl_position_in⟩) (c_position_in : PySem.W.codeIn K cd_position_in "position_in" = true) (k_position_in : PySem.W.keepIn K (.ref f_position_in) = true)
    {f_way_of : Addr} {od_way_of an_way_of : Option Addr} {sl_way_of : Array (Option Value)} {oc_way_of kV_way_of dc_way_of pm_way_of ct_way_of cd_way_of : Value}
    (a_way_of : PySem.W.nsIn K mainGlobals "way_of" = some (some (.ref f_way_of))) (l_way_of : K.lookup f_way_of = some ⟨oc_way_of, od_way_of, .func (PySem.W.fnOf "way_of" "way_of" (defArgs s_way_of) (defBody s_way_of) (defScope s_way_of) .none kV_way_of dc_way_of pm_way_of an_way_of cd_way_of ct_way_of), sl_way_of⟩) (c_way_of : PySem.W.codeIn K cd_way_of "way_of" = true) (k_way_of : PySem.W.keepIn K (.ref f_way_of) = true)
    {f_cards_of_lot : Addr} {od_cards_of_lot an_cards_of_lot : Option Addr} {sl_cards_of_lot : Array (Option Value)} {oc_cards_of_lot kV_cards_of_lot dc_cards_of_lot pm_cards_of_lot ct_cards_of_lot cd_cards_of_lot : Value}
    (a_cards_of_lot : PySem.W.nsIn K mainGlobals "cards_of_lot" = some (some (.ref f_cards_of_lot))) (l_cards_of_lot : K.lookup f_cards_of_lot = some ⟨oc_cards_of_lot, od_cards_of_lot, .func (PySem.W.fnOf "cards_of_lot" "cards_of_lot" (defArgs s_cards_of_lot) (defBody s_cards_of_lot) (defScope s_cards_of_lot) .none kV_cards_of_lot dc_cards_of_lot pm_cards_of_lot an_cards_of_lot cd_cards_of_lot ct_cards_of_lot), sl_cards_of_lot⟩) (c_cards_of_lot : PySem.W.codeIn K cd_cards_of_lot "cards_of_lot" = true) (k_cards_of_lot : PySem.W.keepIn K (.ref f_cards_of_lot) = true)
    {f_order_after : Addr} {od_order_after an_order_after : Option Addr} {sl_order_after : Array (Option Value)} {oc_order_after kV_order_after dc_order_after pm_order_after ct_order_after cd_order_after : Value}
    (a_order_after : PySem.W.nsIn K mainGlobals "order_after" = some (some (.ref f_order_after))) (l_order_after : K.lookup f_order_after = some ⟨oc_order_after, od_order_after, .func (PySem.W.fnOf "order_after" "order_after" (defArgs s_order_after) (defBody s_order_after) (defScope s_order_after) .none kV_order_after dc_order_after pm_order_after an_order_after cd_order_after ct_order_after), sl_order_after⟩) (c_order_after : PySem.W.codeIn K cd_order_after "order_after" = true) (k_order_after : PySem.W.keepIn K (.ref f_order_after) = true)
    {f_deck_after : Addr} {od_deck_after an_deck_after : Option Addr} {sl_deck_after : Array (Option Value)} {oc_deck_after kV_deck_after dc_deck_after pm_deck_after ct_deck_after cd_deck_after : Value}
    (a_deck_after : PySem.W.nsIn K mainGlobals "deck_after" = some (some (.ref f_deck_after))) (l_deck_after : K.lookup f_deck_after = some ⟨oc_deck_after, od_deck_after, .func (PySem.W.fnOf "deck_after" "deck_after" (defArgs s_deck_after) (defBody s_deck_after) (defScope s_deck_after) .none kV_deck_after dc_deck_after pm_deck_after an_deck_after cd_deck_after ct_deck_after), sl_deck_after⟩) (c_deck_after : PySem.W.codeIn K cd_deck_after "deck_after" = true) (k_deck_after : PySem.W.keepIn K (.ref f_deck_after) = true)
    {f_can_come : Addr} {od_can_come an_can_come : Option Addr} {sl_can_come : Array (Option Value)} {oc_can_come kV_can_come dc_can_come pm_can_come ct_can_come cd_can_come : Value}
    (a_can_come : PySem.W.nsIn K mainGlobals "can_come" = some (some (.ref f_can_come))) (l_can_come : K.lookup f_can_come = some ⟨oc_can_come, od_can_come, .func (PySem.W.fnOf "can_come" "can_come" (defArgs s_can_come) (defBody s_can_come) (defScope s_can_come) .none kV_can_come dc_can_come pm_can_come an_can_come cd_can_come ct_can_come), sl_can_come⟩) (c_can_come : PySem.W.codeIn K cd_can_come "can_come" = true) (k_can_come : PySem.W.keepIn K (.ref f_can_come) = true)
    {f_Llaw_deck : Addr} {od_Llaw_deck an_Llaw_deck : Option Addr} {sl_Llaw_deck : Array (Option Value)} {oc_Llaw_deck kV_Llaw_deck dc_Llaw_deck pm_Llaw_deck ct_Llaw_deck cd_Llaw_deck : Value}
    (a_Llaw_deck : PySem.W.nsIn K mainGlobals "_law_deck" = some (some (.ref f_Llaw_deck))) (l_Llaw_deck : K.lookup f_Llaw_deck = some ⟨oc_Llaw_deck, od_Llaw_deck, .func (PySem.W.fnOf "_law_deck" "_law_deck" (defArgs s_Llaw_deck) (defBody s_Llaw_deck) (defScope s_Llaw_deck) .none kV_Llaw_deck dc_Llaw_deck pm_Llaw_deck an_Llaw_deck cd_Llaw_deck ct_Llaw_deck), sl_Llaw_deck⟩) (c_Llaw_deck : PySem.W.codeIn K cd_Llaw_deck "_law_deck" = true) (k_Llaw_deck : PySem.W.keepIn K (.ref f_Llaw_deck) = true)
    {f_Llaw_draw : Addr} {od_Llaw_draw an_Llaw_draw : Option Addr} {sl_Llaw_draw : Array (Option Value)} {oc_Llaw_draw kV_Llaw_draw dc_Llaw_draw pm_Llaw_draw ct_Llaw_draw cd_Llaw_draw : Value}
    (a_Llaw_draw : PySem.W.nsIn K mainGlobals "_law_draw" = some (some (.ref f_Llaw_draw))) (l_Llaw_draw : K.lookup f_Llaw_draw = some ⟨oc_Llaw_draw, od_Llaw_draw, .func (PySem.W.fnOf "_law_draw" "_law_draw" (defArgs s_Llaw_draw) (defBody s_Llaw_draw) (defScope s_Llaw_draw) .none kV_Llaw_draw dc_Llaw_draw pm_Llaw_draw an_Llaw_draw cd_Llaw_draw ct_Llaw_draw), sl_Llaw_draw⟩) (c_Llaw_draw : PySem.W.codeIn K cd_Llaw_draw "_law_draw" = true) (k_Llaw_draw : PySem.W.keepIn K (.ref f_Llaw_draw) = true)
    {f_Llaw_pick : Addr} {od_Llaw_pick an_Llaw_pick : Option Addr} {sl_Llaw_pick : Array (Option Value)} {oc_Llaw_pick kV_Llaw_pick dc_Llaw_pick pm_Llaw_pick ct_Llaw_pick cd_Llaw_pick : Value}
    (a_Llaw_pick : PySem.W.nsIn K mainGlobals "_law_pick" = some (some (.ref f_Llaw_pick))) (l_Llaw_pick : K.lookup f_Llaw_pick = some ⟨oc_Llaw_pick, od_Llaw_pick, .func (PySem.W.fnOf "_law_pick" "_law_pick" (defArgs s_Llaw_pick) (defBody s_Llaw_pick) (defScope s_Llaw_pick) .none kV_Llaw_pick dc_Llaw_pick pm_Llaw_pick an_Llaw_pick cd_Llaw_pick ct_Llaw_pick), sl_Llaw_pick⟩) (c_Llaw_pick : PySem.W.codeIn K cd_Llaw_pick "_law_pick" = true) (k_Llaw_pick : PySem.W.keepIn K (.ref f_Llaw_pick) = true)
    {f_Llaw_cards : Addr} {od_Llaw_cards an_Llaw_cards : Option Addr} {sl_Llaw_cards : Array (Option Value)} {oc_Llaw_cards kV_Llaw_cards dc_Llaw_cards pm_Llaw_cards ct_Llaw_cards cd_Llaw_cards : Value}
    (a_Llaw_cards : PySem.W.nsIn K mainGlobals "_law_cards" = some (some (.ref f_Llaw_cards))) (l_Llaw_cards : K.lookup f_Llaw_cards = some ⟨oc_Llaw_cards, od_Llaw_cards, .func (PySem.W.fnOf "_law_cards" "_law_cards" (defArgs s_Llaw_cards) (defBody s_Llaw_cards) (defScope s_Llaw_cards) .none kV_Llaw_cards dc_Llaw_cards pm_Llaw_cards an_Llaw_cards cd_Llaw_cards ct_Llaw_cards), sl_Llaw_cards⟩) (c_Llaw_cards : PySem.W.codeIn K cd_Llaw_cards "_law_cards" = true) (k_Llaw_cards : PySem.W.keepIn K (.ref f_Llaw_cards) = true)
    {f_Llaw_order : Addr} {od_Llaw_order an_Llaw_order : Option Addr} {sl_Llaw_order : Array (Option Value)} {oc_Llaw_order kV_Llaw_order dc_Llaw_order pm_Llaw_order ct_Llaw_order cd_Llaw_order : Value}
    (a_Llaw_order : PySem.W.nsIn K mainGlobals "_law_order" = some (some (.ref f_Llaw_order))) (l_Llaw_order : K.lookup f_Llaw_order = some ⟨oc_Llaw_order, od_Llaw_order, .func (PySem.W.fnOf "_law_order" "_law_order" (defArgs s_Llaw_order) (defBody s_Llaw_order) (defScope s_Llaw_order) .none kV_Llaw_order dc_Llaw_order pm_Llaw_order an_Llaw_order cd_Llaw_order ct_Llaw_order), sl_Llaw_order⟩) (c_Llaw_order : PySem.W.codeIn K cd_Llaw_order "_law_order" = true) (k_Llaw_order : PySem.W.keepIn K (.ref f_Llaw_order) = true)
    {f_Llaw_throw : Addr} {od_Llaw_throw an_Llaw_throw : Option Addr} {sl_Llaw_throw : Array (Option Value)} {oc_Llaw_throw kV_Llaw_throw dc_Llaw_throw pm_Llaw_throw ct_Llaw_throw cd_Llaw_throw : Value}
    (a_Llaw_throw : PySem.W.nsIn K mainGlobals "_law_throw" = some (some (.ref f_Llaw_throw))) (l_Llaw_throw : K.lookup f_Llaw_throw = some ⟨oc_Llaw_throw, od_Llaw_throw, .func (PySem.W.fnOf "_law_throw" "_law_throw" (defArgs s_Llaw_throw) (defBody s_Llaw_throw) (defScope s_Llaw_throw) .none kV_Llaw_throw dc_Llaw_throw pm_Llaw_throw an_Llaw_throw cd_Llaw_throw ct_Llaw_throw), sl_Llaw_throw⟩) (c_Llaw_throw : PySem.W.codeIn K cd_Llaw_throw "_law_throw" = true) (k_Llaw_throw : PySem.W.keepIn K (.ref f_Llaw_throw) = true)
    {f_Llaw_size : Addr} {od_Llaw_size an_Llaw_size : Option Addr} {sl_Llaw_size : Array (Option Value)} {oc_Llaw_size kV_Llaw_size dc_Llaw_size pm_Llaw_size ct_Llaw_size cd_Llaw_size : Value}
    (a_Llaw_size : PySem.W.nsIn K mainGlobals "_law_size" = some (some (.ref f_Llaw_size))) (l_Llaw_size : K.lookup f_Llaw_size = some ⟨oc_Llaw_size, od_Llaw_size, .func (PySem.W.fnOf "_law_size" "_law_size" (defArgs s_Llaw_size) (defBody s_Llaw_size) (defScope s_Llaw_size) .none kV_Llaw_size dc_Llaw_size pm_Llaw_size an_Llaw_size cd_Llaw_size ct_Llaw_size), sl_Llaw_size⟩) (c_Llaw_size : PySem.W.codeIn K cd_Llaw_size "_law_size" = true) (k_Llaw_size : PySem.W.keepIn K (.ref f_Llaw_size) = true)
    {f_Llaw_after : Addr} {od_Llaw_after an_Llaw_after : Option Addr} {sl_Llaw_after : Array (Option Value)} {oc_Llaw_after kV_Llaw_after dc_Llaw_after pm_Llaw_after ct_Llaw_after cd_Llaw_after : Value}
    (a_Llaw_after : PySem.W.nsIn K mainGlobals "_law_after" = some (some (.ref f_Llaw_after))) (l_Llaw_after : K.lookup f_Llaw_after = some ⟨oc_Llaw_after, od_Llaw_after, .func (PySem.W.fnOf "_law_after" "_law_after" (defArgs s_Llaw_after) (defBody s_Llaw_after) (defScope s_Llaw_after) .none kV_Llaw_after dc_Llaw_after pm_Llaw_after an_Llaw_after cd_Llaw_after ct_Llaw_after), sl_Llaw_after⟩) (c_Llaw_after : PySem.W.codeIn K cd_Llaw_after "_law_after" = true) (k_Llaw_after : PySem.W.keepIn K (.ref f_Llaw_after) = true)
    {f_Llaw_laid : Addr} {od_Llaw_laid an_Llaw_laid : Option Addr} {sl_Llaw_laid : Array (Option Value)} {oc_Llaw_laid kV_Llaw_laid dc_Llaw_laid pm_Llaw_laid ct_Llaw_laid cd_Llaw_laid : Value}
    (a_Llaw_laid : PySem.W.nsIn K mainGlobals "_law_laid" = some (some (.ref f_Llaw_laid))) (l_Llaw_laid : K.lookup f_Llaw_laid = some ⟨oc_Llaw_laid, od_Llaw_laid, .func (PySem.W.fnOf "_law_laid" "_law_laid" (defArgs s_Llaw_laid) (defBody s_Llaw_laid) (defScope s_Llaw_laid) .none kV_Llaw_laid dc_Llaw_laid pm_Llaw_laid an_Llaw_laid cd_Llaw_laid ct_Llaw_laid), sl_Llaw_laid⟩) (c_Llaw_laid : PySem.W.codeIn K cd_Llaw_laid "_law_laid" = true) (k_Llaw_laid : PySem.W.keepIn K (.ref f_Llaw_laid) = true)
    {f_Llaw_way : Addr} {od_Llaw_way an_Llaw_way : Option Addr} {sl_Llaw_way : Array (Option Value)} {oc_Llaw_way kV_Llaw_way dc_Llaw_way pm_Llaw_way ct_Llaw_way cd_Llaw_way : Value}
    (a_Llaw_way : PySem.W.nsIn K mainGlobals "_law_way" = some (some (.ref f_Llaw_way))) (l_Llaw_way : K.lookup f_Llaw_way = some ⟨oc_Llaw_way, od_Llaw_way, .func (PySem.W.fnOf "_law_way" "_law_way" (defArgs s_Llaw_way) (defBody s_Llaw_way) (defScope s_Llaw_way) .none kV_Llaw_way dc_Llaw_way pm_Llaw_way an_Llaw_way cd_Llaw_way ct_Llaw_way), sl_Llaw_way⟩) (c_Llaw_way : PySem.W.codeIn K cd_Llaw_way "_law_way" = true) (k_Llaw_way : PySem.W.keepIn K (.ref f_Llaw_way) = true)
    {f_Llaw_is_after_right : Addr} {od_Llaw_is_after_right an_Llaw_is_after_right : Option Addr} {sl_Llaw_is_after_right : Array (Option Value)} {oc_Llaw_is_after_right kV_Llaw_is_after_right dc_Llaw_is_after_right pm_Llaw_is_after_right ct_Llaw_is_after_right cd_Llaw_is_after_right : Value}
    (a_Llaw_is_after_right : PySem.W.nsIn K mainGlobals "_law_is_after_right" = some (some (.ref f_Llaw_is_after_right))) (l_Llaw_is_after_right : K.lookup f_Llaw_is_after_right = some ⟨oc_Llaw_is_after_right, od_Llaw_is_after_right, .func (PySem.W.fnOf "_law_is_after_right" "_law_is_after_right" (defArgs s_Llaw_is_after_right) (defBody s_Llaw_is_after_right) (defScope s_Llaw_is_after_right) .none kV_Llaw_is_after_right dc_Llaw_is_after_right pm_Llaw_is_after_right an_Llaw_is_after_right cd_Llaw_is_after_right ct_Llaw_is_after_right), sl_Llaw_is_after_right⟩) (c_Llaw_is_after_right : PySem.W.codeIn K cd_Llaw_is_after_right "_law_is_after_right" = true) (k_Llaw_is_after_right : PySem.W.keepIn K (.ref f_Llaw_is_after_right) = true)
    {f_Llaw_are_twos_right : Addr} {od_Llaw_are_twos_right an_Llaw_are_twos_right : Option Addr} {sl_Llaw_are_twos_right : Array (Option Value)} {oc_Llaw_are_twos_right kV_Llaw_are_twos_right dc_Llaw_are_twos_right pm_Llaw_are_twos_right ct_Llaw_are_twos_right cd_Llaw_are_twos_right : Value}
    (a_Llaw_are_twos_right : PySem.W.nsIn K mainGlobals "_law_are_twos_right" = some (some (.ref f_Llaw_are_twos_right))) (l_Llaw_are_twos_right : K.lookup f_Llaw_are_twos_right = some ⟨oc_Llaw_are_twos_right, od_Llaw_are_twos_right, .func (PySem.W.fnOf "_law_are_twos_right" "_law_are_twos_right" (defArgs s_Llaw_are_twos_right) (defBody s_Llaw_are_twos_right) (defScope s_Llaw_are_twos_right) .none kV_Llaw_are_twos_right dc_Llaw_are_twos_right pm_Llaw_are_twos_right an_Llaw_are_twos_right cd_Llaw_are_twos_right ct_Llaw_are_twos_right), sl_Llaw_are_twos_right⟩) (c_Llaw_are_twos_right : PySem.W.codeIn K cd_Llaw_are_twos_right "_law_are_twos_right" = true) (k_Llaw_are_twos_right : PySem.W.keepIn K (.ref f_Llaw_are_twos_right) = true)
    {f_Llaw_are_parts_right : Addr} {od_Llaw_are_parts_right an_Llaw_are_parts_right : Option Addr} {sl_Llaw_are_parts_right : Array (Option Value)} {oc_Llaw_are_parts_right kV_Llaw_are_parts_right dc_Llaw_are_parts_right pm_Llaw_are_parts_right ct_Llaw_are_parts_right cd_Llaw_are_parts_right : Value}
    (a_Llaw_are_parts_right : PySem.W.nsIn K mainGlobals "_law_are_parts_right" = some (some (.ref f_Llaw_are_parts_right))) (l_Llaw_are_parts_right : K.lookup f_Llaw_are_parts_right = some ⟨oc_Llaw_are_parts_right, od_Llaw_are_parts_right, .func (PySem.W.fnOf "_law_are_parts_right" "_law_are_parts_right" (defArgs s_Llaw_are_parts_right) (defBody s_Llaw_are_parts_right) (defScope s_Llaw_are_parts_right) .none kV_Llaw_are_parts_right dc_Llaw_are_parts_right pm_Llaw_are_parts_right an_Llaw_are_parts_right cd_Llaw_are_parts_right ct_Llaw_are_parts_right), sl_Llaw_are_parts_right⟩) (c_Llaw_are_parts_right : PySem.W.codeIn K cd_Llaw_are_parts_right "_law_are_parts_right" = true) (k_Llaw_are_parts_right : PySem.W.keepIn K (.ref f_Llaw_are_parts_right) = true)
    {f_Llaw_are_plain_right : Addr} {od_Llaw_are_plain_right an_Llaw_are_plain_right : Option Addr} {sl_Llaw_are_plain_right : Array (Option Value)} {oc_Llaw_are_plain_right kV_Llaw_are_plain_right dc_Llaw_are_plain_right pm_Llaw_are_plain_right ct_Llaw_are_plain_right cd_Llaw_are_plain_right : Value}
    (a_Llaw_are_plain_right : PySem.W.nsIn K mainGlobals "_law_are_plain_right" = some (some (.ref f_Llaw_are_plain_right))) (l_Llaw_are_plain_right : K.lookup f_Llaw_are_plain_right = some ⟨oc_Llaw_are_plain_right, od_Llaw_are_plain_right, .func (PySem.W.fnOf "_law_are_plain_right" "_law_are_plain_right" (defArgs s_Llaw_are_plain_right) (defBody s_Llaw_are_plain_right) (defScope s_Llaw_are_plain_right) .none kV_Llaw_are_plain_right dc_Llaw_are_plain_right pm_Llaw_are_plain_right an_Llaw_are_plain_right cd_Llaw_are_plain_right ct_Llaw_are_plain_right), sl_Llaw_are_plain_right⟩) (c_Llaw_are_plain_right : PySem.W.codeIn K cd_Llaw_are_plain_right "_law_are_plain_right" = true) (k_Llaw_are_plain_right : PySem.W.keepIn K (.ref f_Llaw_are_plain_right) = true)
    {f_law : Addr} {od_law an_law : Option Addr} {sl_law : Array (Option Value)} {oc_law kV_law dc_law pm_law ct_law cd_law : Value}
    (a_law : PySem.W.nsIn K mainGlobals "law" = some (some (.ref f_law))) (l_law : K.lookup f_law = some ⟨oc_law, od_law, .func (PySem.W.fnOf "law" "law" (defArgs s_law) (defBody s_law) (defScope s_law) .none kV_law dc_law pm_law an_law cd_law ct_law), sl_law⟩) (c_law : PySem.W.codeIn K cd_law "law" = true) (k_law : PySem.W.keepIn K (.ref f_law) = true)
    (z_all : PySem.W.nsIn K mainGlobals "all" = some none)
    (z_bool : PySem.W.nsIn K mainGlobals "bool" = some none)
    (z_dict : PySem.W.nsIn K mainGlobals "dict" = some none)
    (z_enumerate : PySem.W.nsIn K mainGlobals "enumerate" = some none)
    (z_int : PySem.W.nsIn K mainGlobals "int" = some none)
    (z_isinstance : PySem.W.nsIn K mainGlobals "isinstance" = some none)
    (z_len : PySem.W.nsIn K mainGlobals "len" = some none)
    (z_list : PySem.W.nsIn K mainGlobals "list" = some none)
    (z_max : PySem.W.nsIn K mainGlobals "max" = some none)
    (z_range : PySem.W.nsIn K mainGlobals "range" = some none)
    (z_repr : PySem.W.nsIn K mainGlobals "repr" = some none)
    (z_sorted : PySem.W.nsIn K mainGlobals "sorted" = some none)
    (z_sum : PySem.W.nsIn K mainGlobals "sum" = some none)
    (z_tuple : PySem.W.nsIn K mainGlobals "tuple" = some none)
    (z_zip : PySem.W.nsIn K mainGlobals "zip" = some none)
    {t_MOST_KINDS : Tok} (g_MOST_KINDS : PySem.W.nsIn K mainGlobals "MOST_KINDS" = some (some (.int (8) t_MOST_KINDS)))
    {t_MOST_CARDS : Tok} (g_MOST_CARDS : PySem.W.nsIn K mainGlobals "MOST_CARDS" = some (some (.int (60) t_MOST_CARDS)))
    {t_KEPT : Tok} (g_KEPT : PySem.W.nsIn K mainGlobals "KEPT" = some (some (.int (1) t_KEPT)))
    {t_TURNED : Tok} (g_TURNED : PySem.W.nsIn K mainGlobals "TURNED" = some (some (.int (-1) t_TURNED)))
    : LawQ l w K 15 63 "_law_script" mg fa h := by
  have e := hfa.symm.trans (PySem.W.mg_of X G a_law)
  cases e
  have F_is_integer := fun_mk (st := s_is_integer) l_is_integer c_is_integer k_is_integer
  have F_is_within := fun_mk (st := s_is_within) l_is_within c_is_within k_is_within
  have F_is_size := fun_mk (st := s_is_size) l_is_size c_is_size k_is_size
  have F_is_kind := fun_mk (st := s_is_kind) l_is_kind c_is_kind k_is_kind
  have F_are_kinds := fun_mk (st := s_are_kinds) l_are_kinds c_are_kinds k_are_kinds
  have F_is_ascending := fun_mk (st := s_is_ascending) l_is_ascending c_is_ascending k_is_ascending
  have F_need_size := fun_mk (st := s_need_size) l_need_size c_need_size k_need_size
  have F_need_kind := fun_mk (st := s_need_kind) l_need_kind c_need_kind k_need_kind
  have F_need_number := fun_mk (st := s_need_number) l_need_number c_need_number k_need_number
  have F_is_deck := fun_mk (st := s_is_deck) l_is_deck c_is_deck k_is_deck
  have F_is_order := fun_mk (st := s_is_order) l_is_order c_is_order k_is_order
  have F_need_deck := fun_mk (st := s_need_deck) l_need_deck c_need_deck k_need_deck
  have F_need_order := fun_mk (st := s_need_order) l_need_order c_need_order k_need_order
  have F_need_some_order := fun_mk (st := s_need_some_order) l_need_some_order c_need_some_order k_need_some_order
  have F_laid := fun_mk (st := s_laid) l_laid c_laid k_laid
  have F_opposite := fun_mk (st := s_opposite) l_opposite c_opposite k_opposite
  have F_counts_of := fun_mk (st := s_counts_of) l_counts_of c_counts_of k_counts_of
  have F_is_lot := fun_mk (st := s_is_lot) l_is_lot c_is_lot k_is_lot
  have F_is_signed_lot := fun_mk (st := s_is_signed_lot) l_is_signed_lot c_is_signed_lot k_is_signed_lot
  have F_is_throw := fun_mk (st := s_is_throw) l_is_throw c_is_throw k_is_throw
  have F_need_throw := fun_mk (st := s_need_throw) l_need_throw c_need_throw k_need_throw
  have F_size_of := fun_mk (st := s_size_of) l_size_of c_size_of k_size_of
  have F_still := fun_mk (st := s_still) l_still c_still k_still
  have F_turning := fun_mk (st := s_turning) l_turning c_turning k_turning
  have F_position_in := fun_mk (st := s_position_in) l_position_in c_position_in k_position_in
  have F_way_of := fun_mk (st := s_way_of) l_way_of c_way_of k_way_of
  have F_cards_of_lot := fun_mk (st := s_cards_of_lot) l_cards_of_lot c_cards_of_lot k_cards_of_lot
  have F_order_after := fun_mk (st := s_order_after) l_order_after c_order_after k_order_after
  have F_deck_after := fun_mk (st := s_deck_after) l_deck_after c_deck_after k_deck_after
  have F_can_come := fun_mk (st := s_can_come) l_can_come c_can_come k_can_come
  have F_Llaw_deck := fun_mk (st := s_Llaw_deck) l_Llaw_deck c_Llaw_deck k_Llaw_deck
  have F_Llaw_draw := fun_mk (st := s_Llaw_draw) l_Llaw_draw c_Llaw_draw k_Llaw_draw
  have F_Llaw_pick := fun_mk (st := s_Llaw_pick) l_Llaw_pick c_Llaw_pick k_Llaw_pick
  have F_Llaw_cards := fun_mk (st := s_Llaw_cards) l_Llaw_cards c_Llaw_cards k_Llaw_cards
  have F_Llaw_order := fun_mk (st := s_Llaw_order) l_Llaw_order c_Llaw_order k_Llaw_order
  have F_Llaw_throw := fun_mk (st := s_Llaw_throw) l_Llaw_throw c_Llaw_throw k_Llaw_throw
  have F_Llaw_size := fun_mk (st := s_Llaw_size) l_Llaw_size c_Llaw_size k_Llaw_size
  have F_Llaw_after := fun_mk (st := s_Llaw_after) l_Llaw_after c_Llaw_after k_Llaw_after
  have F_Llaw_laid := fun_mk (st := s_Llaw_laid) l_Llaw_laid c_Llaw_laid k_Llaw_laid
  have F_Llaw_way := fun_mk (st := s_Llaw_way) l_Llaw_way c_Llaw_way k_Llaw_way
  have F_Llaw_is_after_right := fun_mk (st := s_Llaw_is_after_right) l_Llaw_is_after_right c_Llaw_is_after_right k_Llaw_is_after_right
  have F_Llaw_are_twos_right := fun_mk (st := s_Llaw_are_twos_right) l_Llaw_are_twos_right c_Llaw_are_twos_right k_Llaw_are_twos_right
  have F_Llaw_are_parts_right := fun_mk (st := s_Llaw_are_parts_right) l_Llaw_are_parts_right c_Llaw_are_parts_right k_Llaw_are_parts_right
  have F_Llaw_are_plain_right := fun_mk (st := s_Llaw_are_plain_right) l_Llaw_are_plain_right c_Llaw_are_plain_right k_Llaw_are_plain_right
  have F_law := fun_mk (st := s_law) l_law c_law k_law
  have et_are_kinds := own "are_kinds" f_are_kinds rc_are_kinds (PySem.W.mg_of X G a_are_kinds) tc_are_kinds tp_are_kinds _ _ _ _ _ _ l_are_kinds rfl rfl lc_are_kinds pe_are_kinds
  have ch_are_kinds := PySem.W.codeHd_of_K X hd_are_kinds
  have et_is_deck := own "is_deck" f_is_deck rc_is_deck (PySem.W.mg_of X G a_is_deck) tc_is_deck tp_is_deck _ _ _ _ _ _ l_is_deck rfl rfl lc_is_deck pe_is_deck
  have ch_is_deck := PySem.W.codeHd_of_K X hd_is_deck
  have et_is_order := own "is_order" f_is_order rc_is_order (PySem.W.mg_of X G a_is_order) tc_is_order tp_is_order _ _ _ _ _ _ l_is_order rfl rfl lc_is_order pe_is_order
  have ch_is_order := PySem.W.codeHd_of_K X hd_is_order
  have et_is_throw := own "is_throw" f_is_throw rc_is_throw (PySem.W.mg_of X G a_is_throw) tc_is_throw tp_is_throw _ _ _ _ _ _ l_is_throw rfl rfl lc_is_throw pe_is_throw
  have ch_is_throw := PySem.W.codeHd_of_K X hd_is_throw
  refine ⟨PySem.W.fnOf "law" "law" (defArgs s_law) (defBody s_law) (defScope s_law) .none kV_law dc_law pm_law an_law cd_law ct_law, [(tc_are_kinds, tp_are_kinds), (tc_is_deck, tp_is_deck), (tc_is_order, tp_is_order), (tc_is_throw, tp_is_throw)], spLaw K [tp_are_kinds, tp_is_deck, tp_is_order, tp_is_throw], (fun p hp => by simp only [List.mem_cons, List.not_mem_nil, or_false] at hp; rcases hp with rfl | rfl | rfl | rfl <;> assumption), (fun p hp => by simp only [List.mem_cons, List.not_mem_nil, or_false] at hp; rcases hp with rfl | rfl | rfl | rfl <;> assumption), (fun p hp => by simp only [List.mem_cons, List.not_mem_nil, or_false] at hp; rcases hp with rfl | rfl | rfl | rfl <;> assumption), fun s v => .of_eq rfl, fun H a ns _ _ hT hS => ⟨a, ns, rfl, hS, fun P hP => ?_, fun _ => rfl⟩, fun base _ _ tb => ?_⟩
  · obtain ⟨p, hp, rfl⟩ : ∃ p ∈ [(tc_are_kinds, tp_are_kinds), (tc_is_deck, tp_is_deck), (tc_is_order, tp_is_order), (tc_is_throw, tp_is_throw)], p.2 = P := by simpa [eq_comm] using hP
    exact ⟨#[], hT p hp, trivial⟩
  · exact fn_law (P := l.prog) (w := w) (K := K) (mg := mg) (base := base) (T := [tp_are_kinds, tp_is_deck, tp_is_order, tp_is_throw]) ({
      f_is_integer := f_is_integer, d_is_integer := _, F_is_integer := F_is_integer, m_is_integer := PySem.W.mg_of X G a_is_integer, b_is_integer := F_is_integer.binds (fun _ _ _ _ _ _ us hl => match us, hl with | [_], _ => rfl)
      f_is_within := f_is_within, d_is_within := _, F_is_within := F_is_within, m_is_within := PySem.W.mg_of X G a_is_within, b_is_within := F_is_within.binds (fun _ _ _ _ _ _ us hl => match us, hl with | [_, _, _], _ => rfl)
      f_is_size := f_is_size, d_is_size := _, F_is_size := F_is_size, m_is_size := PySem.W.mg_of X G a_is_size, b_is_size := F_is_size.binds (fun _ _ _ _ _ _ us hl => match us, hl with | [_], _ => rfl)
      f_is_kind := f_is_kind, d_is_kind := _, F_is_kind := F_is_kind, m_is_kind := PySem.W.mg_of X G a_is_kind, b_is_kind := F_is_kind.binds (fun _ _ _ _ _ _ us hl => match us, hl with | [_, _], _ => rfl)
      f_are_kinds := f_are_kinds, d_are_kinds := _, F_are_kinds := F_are_kinds, m_are_kinds := PySem.W.mg_of X G a_are_kinds, b_are_kinds := F_are_kinds.binds (fun _ _ _ _ _ _ us hl => match us, hl with | [_, _], _ => rfl)
      f_is_ascending := f_is_ascending, d_is_ascending := _, F_is_ascending := F_is_ascending, m_is_ascending := PySem.W.mg_of X G a_is_ascending, b_is_ascending := F_is_ascending.binds (fun _ _ _ _ _ _ us hl => match us, hl with | [_], _ => rfl)
      f_need_size := f_need_size, d_need_size := _, F_need_size := F_need_size, m_need_size := PySem.W.mg_of X G a_need_size, b_need_size := F_need_size.binds (fun _ _ _ _ _ _ us hl => match us, hl with | [_], _ => rfl)
      f_need_kind := f_need_kind, d_need_kind := _, F_need_kind := F_need_kind, m_need_kind := PySem.W.mg_of X G a_need_kind, b_need_kind := F_need_kind.binds (fun _ _ _ _ _ _ us hl => match us, hl with | [_, _], _ => rfl)
      f_need_number := f_need_number, d_need_number := _, F_need_number := F_need_number, m_need_number := PySem.W.mg_of X G a_need_number, b_need_number := F_need_number.binds (fun _ _ _ _ _ _ us hl => match us, hl with | [_], _ => rfl)
      f_is_deck := f_is_deck, d_is_deck := _, F_is_deck := F_is_deck, m_is_deck := PySem.W.mg_of X G a_is_deck, b_is_deck := F_is_deck.binds (fun _ _ _ _ _ _ us hl => match us, hl with | [_, _], _ => rfl)
      f_is_order := f_is_order, d_is_order := _, F_is_order := F_is_order, m_is_order := PySem.W.mg_of X G a_is_order, b_is_order := F_is_order.binds (fun _ _ _ _ _ _ us hl => match us, hl with | [_, _], _ => rfl)
      f_need_deck := f_need_deck, d_need_deck := _, F_need_deck := F_need_deck, m_need_deck := PySem.W.mg_of X G a_need_deck, b_need_deck := F_need_deck.binds (fun _ _ _ _ _ _ us hl => match us, hl with | [_, _], _ => rfl)
      f_need_order := f_need_order, d_need_order := _, F_need_order := F_need_order, m_need_order := PySem.W.mg_of X G a_need_order, b_need_order := F_need_order.binds (fun _ _ _ _ _ _ us hl => match us, hl with | [_, _], _ => rfl)
      f_need_some_order := f_need_some_order, d_need_some_order := _, F_need_some_order := F_need_some_order, m_need_some_order := PySem.W.mg_of X G a_need_some_order, b_need_some_order := F_need_some_order.binds (fun _ _ _ _ _ _ us hl => match us, hl with | [_], _ => rfl)
      f_laid := f_laid, d_laid := _, F_laid := F_laid, m_laid := PySem.W.mg_of X G a_laid, b_laid := F_laid.binds (fun _ _ _ _ _ _ us hl => match us, hl with | [_, _], _ => rfl)
      f_opposite := f_opposite, d_opposite := _, F_opposite := F_opposite, m_opposite := PySem.W.mg_of X G a_opposite, b_opposite := F_opposite.binds (fun _ _ _ _ _ _ us hl => match us, hl with | [_], _ => rfl)
      f_counts_of := f_counts_of, d_counts_of := _, F_counts_of := F_counts_of, m_counts_of := PySem.W.mg_of X G a_counts_of, b_counts_of := F_counts_of.binds (fun _ _ _ _ _ _ us hl => match us, hl with | [_, _], _ => rfl)
      f_is_lot := f_is_lot, d_is_lot := _, F_is_lot := F_is_lot, m_is_lot := PySem.W.mg_of X G a_is_lot, b_is_lot := F_is_lot.binds (fun _ _ _ _ _ _ us hl => match us, hl with | [_], _ => rfl)
      f_is_signed_lot := f_is_signed_lot, d_is_signed_lot := _, F_is_signed_lot := F_is_signed_lot, m_is_signed_lot := PySem.W.mg_of X G a_is_signed_lot, b_is_signed_lot := F_is_signed_lot.binds (fun _ _ _ _ _ _ us hl => match us, hl with | [_], _ => rfl)
      f_is_throw := f_is_throw, d_is_throw := _, F_is_throw := F_is_throw, m_is_throw := PySem.W.mg_of X G a_is_throw, b_is_throw := F_is_throw.binds (fun _ _ _ _ _ _ us hl => match us, hl with | [_], _ => rfl)
      f_need_throw := f_need_throw, d_need_throw := _, F_need_throw := F_need_throw, m_need_throw := PySem.W.mg_of X G a_need_throw, b_need_throw := F_need_throw.binds (fun _ _ _ _ _ _ us hl => match us, hl with | [_], _ => rfl)
      f_size_of := f_size_of, d_size_of := _, F_size_of := F_size_of, m_size_of := PySem.W.mg_of X G a_size_of, b_size_of := F_size_of.binds (fun _ _ _ _ _ _ us hl => match us, hl with | [_], _ => rfl)
      f_still := f_still, d_still := _, F_still := F_still, m_still := PySem.W.mg_of X G a_still, b_still := F_still.binds (fun _ _ _ _ _ _ us hl => match us, hl with | [_], _ => rfl)
      f_turning := f_turning, d_turning := _, F_turning := F_turning, m_turning := PySem.W.mg_of X G a_turning, b_turning := F_turning.binds (fun _ _ _ _ _ _ us hl => match us, hl with | [_], _ => rfl)
      f_position_in := f_position_in, d_position_in := _, F_position_in := F_position_in, m_position_in := PySem.W.mg_of X G a_position_in, b_position_in := F_position_in.binds (fun _ _ _ _ _ _ us hl => match us, hl with | [_, _], _ => rfl)
      f_way_of := f_way_of, d_way_of := _, F_way_of := F_way_of, m_way_of := PySem.W.mg_of X G a_way_of, b_way_of := F_way_of.binds (fun _ _ _ _ _ _ us hl => match us, hl with | [_, _, _], _ => rfl)
      f_cards_of_lot := f_cards_of_lot, d_cards_of_lot := _, F_cards_of_lot := F_cards_of_lot, m_cards_of_lot := PySem.W.mg_of X G a_cards_of_lot, b_cards_of_lot := F_cards_of_lot.binds (fun _ _ _ _ _ _ us hl => match us, hl with | [_, _, _], _ => rfl)
      f_order_after := f_order_after, d_order_after := _, F_order_after := F_order_after, m_order_after := PySem.W.mg_of X G a_order_after, b_order_after := F_order_after.binds (fun _ _ _ _ _ _ us hl => match us, hl with | [_, _], _ => rfl)
      f_deck_after := f_deck_after, d_deck_after := _, F_deck_after := F_deck_after, m_deck_after := PySem.W.mg_of X G a_deck_after, b_deck_after := F_deck_after.binds (fun _ _ _ _ _ _ us hl => match us, hl with | [_, _], _ => rfl)
      f_can_come := f_can_come, d_can_come := _, F_can_come := F_can_come, m_can_come := PySem.W.mg_of X G a_can_come, b_can_come := F_can_come.binds (fun _ _ _ _ _ _ us hl => match us, hl with | [_, _], _ => rfl)
      f_Llaw_deck := f_Llaw_deck, d_Llaw_deck := _, F_Llaw_deck := F_Llaw_deck, m_Llaw_deck := PySem.W.mg_of X G a_Llaw_deck, b_Llaw_deck := F_Llaw_deck.binds (fun _ _ _ _ _ _ us hl => match us, hl with | [_], _ => rfl)
      f_Llaw_draw := f_Llaw_draw, d_Llaw_draw := _, F_Llaw_draw := F_Llaw_draw, m_Llaw_draw := PySem.W.mg_of X G a_Llaw_draw, b_Llaw_draw := F_Llaw_draw.binds (fun _ _ _ _ _ _ us hl => match us, hl with | [_, _], _ => rfl)
      f_Llaw_pick := f_Llaw_pick, d_Llaw_pick := _, F_Llaw_pick := F_Llaw_pick, m_Llaw_pick := PySem.W.mg_of X G a_Llaw_pick, b_Llaw_pick := F_Llaw_pick.binds (fun _ _ _ _ _ _ us hl => match us, hl with | [_, _], _ => rfl)
      f_Llaw_cards := f_Llaw_cards, d_Llaw_cards := _, F_Llaw_cards := F_Llaw_cards, m_Llaw_cards := PySem.W.mg_of X G a_Llaw_cards, b_Llaw_cards := F_Llaw_cards.binds (fun _ _ _ _ _ _ us hl => match us, hl with | [_, _, _], _ => rfl)
      f_Llaw_order := f_Llaw_order, d_Llaw_order := _, F_Llaw_order := F_Llaw_order, m_Llaw_order := PySem.W.mg_of X G a_Llaw_order, b_Llaw_order := F_Llaw_order.binds (fun _ _ _ _ _ _ us hl => match us, hl with | [_, _], _ => rfl)
      f_Llaw_throw := f_Llaw_throw, d_Llaw_throw := _, F_Llaw_throw := F_Llaw_throw, m_Llaw_throw := PySem.W.mg_of X G a_Llaw_throw, b_Llaw_throw := F_Llaw_throw.binds (fun _ _ _ _ _ _ us hl => match us, hl with | [_, _], _ => rfl)
      f_Llaw_size := f_Llaw_size, d_Llaw_size := _, F_Llaw_size := F_Llaw_size, m_Llaw_size := PySem.W.mg_of X G a_Llaw_size, b_Llaw_size := F_Llaw_size.binds (fun _ _ _ _ _ _ us hl => match us, hl with | [_], _ => rfl)
      f_Llaw_after := f_Llaw_after, d_Llaw_after := _, F_Llaw_after := F_Llaw_after, m_Llaw_after := PySem.W.mg_of X G a_Llaw_after, b_Llaw_after := F_Llaw_after.binds (fun _ _ _ _ _ _ us hl => match us, hl with | [_, _], _ => rfl)
      f_Llaw_laid := f_Llaw_laid, d_Llaw_laid := _, F_Llaw_laid := F_Llaw_laid, m_Llaw_laid := PySem.W.mg_of X G a_Llaw_laid, b_Llaw_laid := F_Llaw_laid.binds (fun _ _ _ _ _ _ us hl => match us, hl with | [_, _], _ => rfl)
      f_Llaw_way := f_Llaw_way, d_Llaw_way := _, F_Llaw_way := F_Llaw_way, m_Llaw_way := PySem.W.mg_of X G a_Llaw_way, b_Llaw_way := F_Llaw_way.binds (fun _ _ _ _ _ _ us hl => match us, hl with | [_, _, _], _ => rfl)
      f_Llaw_is_after_right := f_Llaw_is_after_right, d_Llaw_is_after_right := _, F_Llaw_is_after_right := F_Llaw_is_after_right, m_Llaw_is_after_right := PySem.W.mg_of X G a_Llaw_is_after_right, b_Llaw_is_after_right := F_Llaw_is_after_right.binds (fun _ _ _ _ _ _ us hl => match us, hl with | [_, _], _ => rfl)
      f_Llaw_are_twos_right := f_Llaw_are_twos_right, d_Llaw_are_twos_right := _, F_Llaw_are_twos_right := F_Llaw_are_twos_right, m_Llaw_are_twos_right := PySem.W.mg_of X G a_Llaw_are_twos_right, b_Llaw_are_twos_right := F_Llaw_are_twos_right.binds (fun _ _ _ _ _ _ us hl => match us, hl with | [_, _, _], _ => rfl)
      f_Llaw_are_parts_right := f_Llaw_are_parts_right, d_Llaw_are_parts_right := _, F_Llaw_are_parts_right := F_Llaw_are_parts_right, m_Llaw_are_parts_right := PySem.W.mg_of X G a_Llaw_are_parts_right, b_Llaw_are_parts_right := F_Llaw_are_parts_right.binds (fun _ _ _ _ _ _ us hl => match us, hl with | [_, _, _], _ => rfl)
      f_Llaw_are_plain_right := f_Llaw_are_plain_right, d_Llaw_are_plain_right := _, F_Llaw_are_plain_right := F_Llaw_are_plain_right, m_Llaw_are_plain_right := PySem.W.mg_of X G a_Llaw_are_plain_right, b_Llaw_are_plain_right := F_Llaw_are_plain_right.binds (fun _ _ _ _ _ _ us hl => match us, hl with | [_, _], _ => rfl)
      f_law := fa, d_law := _, F_law := F_law, m_law := PySem.W.mg_of X G a_law, b_law := F_law.binds (fun _ _ _ _ _ _ us hl => match us, hl with | [_], _ => rfl)
      k_deck_after_deck_throw := fun s ws hl => match ws, hl with | _ :: _ :: _, _ => .of_eq rfl
      k_order_after_deck_throw := fun s ws hl => match ws, hl with | _ :: _ :: _, _ => .of_eq rfl
      n_all := PySem.W.mg_none_of X G z_all
      n_bool := PySem.W.mg_none_of X G z_bool
      n_dict := PySem.W.mg_none_of X G z_dict
      n_enumerate := PySem.W.mg_none_of X G z_enumerate
      n_int := PySem.W.mg_none_of X G z_int
      n_isinstance := PySem.W.mg_none_of X G z_isinstance
      n_len := PySem.W.mg_none_of X G z_len
      n_list := PySem.W.mg_none_of X G z_list
      n_max := PySem.W.mg_none_of X G z_max
      n_range := PySem.W.mg_none_of X G z_range
      n_repr := PySem.W.mg_none_of X G z_repr
      n_sorted := PySem.W.mg_none_of X G z_sorted
      n_sum := PySem.W.mg_none_of X G z_sum
      n_tuple := PySem.W.mg_none_of X G z_tuple
      n_zip := PySem.W.mg_none_of X G z_zip
      t_MOST_KINDS := _, c_MOST_KINDS := PySem.W.mg_of X G g_MOST_KINDS
      t_MOST_CARDS := _, c_MOST_CARDS := PySem.W.mg_of X G g_MOST_CARDS
      t_KEPT := _, c_KEPT := PySem.W.mg_of X G g_KEPT
      t_TURNED := _, c_TURNED := PySem.W.mg_of X G g_TURNED
      tc_are_kinds := tc_are_kinds, tp_are_kinds := tp_are_kinds, th_are_kinds := rfl, tm_are_kinds := by simp, tb_are_kinds := tb (tc_are_kinds, tp_are_kinds) (by simp)
      tc_is_deck := tc_is_deck, tp_is_deck := tp_is_deck, th_is_deck := rfl, tm_is_deck := by simp, tb_is_deck := tb (tc_is_deck, tp_is_deck) (by simp)
      tc_is_order := tc_is_order, tp_is_order := tp_is_order, th_is_order := rfl, tm_is_order := by simp, tb_is_order := tb (tc_is_order, tp_is_order) (by simp)
      tc_is_throw := tc_is_throw, tp_is_throw := tp_is_throw, th_is_throw := rfl, tm_is_throw := by simp, tb_is_throw := tb (tc_is_throw, tp_is_throw) (by simp)
    } : Facts l.prog w K mg base _) math
-- GOALS a_is_integer l_is_integer c_is_integer k_is_integer a_is_within l_is_within c_is_within k_is_within a_is_size l_is_size c_is_size k_is_size a_is_kind l_is_kind c_is_kind k_is_kind a_are_kinds l_are_kinds c_are_kinds k_are_kinds lc_are_kinds pe_are_kinds hd_are_kinds np_are_kinds rc_are_kinds a_is_ascending l_is_ascending c_is_ascending k_is_ascending a_need_size l_need_size c_need_size k_need_size a_need_kind l_need_kind c_need_kind k_need_kind a_need_number l_need_number c_need_number k_need_number a_is_deck l_is_deck c_is_deck k_is_deck lc_is_deck pe_is_deck hd_is_deck np_is_deck rc_is_deck a_is_order l_is_order c_is_order k_is_order lc_is_order pe_is_order hd_is_order np_is_order rc_is_order a_need_deck l_need_deck c_need_deck k_need_deck a_need_order l_need_order c_need_order k_need_order a_need_some_order l_need_some_order c_need_some_order k_need_some_order a_laid l_laid c_laid k_laid a_opposite l_opposite c_opposite k_opposite a_counts_of l_counts_of c_counts_of k_counts_of a_is_lot l_is_lot c_is_lot k_is_lot a_is_signed_lot l_is_signed_lot c_is_signed_lot k_is_signed_lot a_is_throw l_is_throw c_is_throw k_is_throw lc_is_throw pe_is_throw hd_is_throw np_is_throw rc_is_throw a_need_throw l_need_throw c_need_throw k_need_throw a_size_of l_size_of c_size_of k_size_of a_still l_still c_still k_still a_turning l_turning c_turning k_turning a_position_in l_position_in c_position_in k_position_in a_way_of l_way_of c_way_of k_way_of a_cards_of_lot l_cards_of_lot c_cards_of_lot k_cards_of_lot a_order_after l_order_after c_order_after k_order_after a_deck_after l_deck_after c_deck_after k_deck_after a_can_come l_can_come c_can_come k_can_come a_Llaw_deck l_Llaw_deck c_Llaw_deck k_Llaw_deck a_Llaw_draw l_Llaw_draw c_Llaw_draw k_Llaw_draw a_Llaw_pick l_Llaw_pick c_Llaw_pick k_Llaw_pick a_Llaw_cards l_Llaw_cards c_Llaw_cards k_Llaw_cards a_Llaw_order l_Llaw_order c_Llaw_order k_Llaw_order a_Llaw_throw l_Llaw_throw c_Llaw_throw k_Llaw_throw a_Llaw_size l_Llaw_size c_Llaw_size k_Llaw_size a_Llaw_after l_Llaw_after c_Llaw_after k_Llaw_after a_Llaw_laid l_Llaw_laid c_Llaw_laid k_Llaw_laid a_Llaw_way l_Llaw_way c_Llaw_way k_Llaw_way a_Llaw_is_after_right l_Llaw_is_after_right c_Llaw_is_after_right k_Llaw_is_after_right a_Llaw_are_twos_right l_Llaw_are_twos_right c_Llaw_are_twos_right k_Llaw_are_twos_right a_Llaw_are_parts_right l_Llaw_are_parts_right c_Llaw_are_parts_right k_Llaw_are_parts_right a_Llaw_are_plain_right l_Llaw_are_plain_right c_Llaw_are_plain_right k_Llaw_are_plain_right a_law l_law c_law k_law z_all z_bool z_dict z_enumerate z_int z_isinstance z_len z_list z_max z_range z_repr z_sorted z_sum z_tuple z_zip g_MOST_KINDS g_MOST_CARDS g_KEPT g_TURNED
end
end GA.k06

set_option Elab.async false
set_option linter.all false
set_option maxRecDepth 100000
set_option maxHeartbeats 2000000
namespace GA.P
open PySem PySem.Spec PyProof.Rows L2 GenW HT
/-- the deck stays within its bounds for j more draws -/
structure Good (j : Nat) (s : S) : Prop where
  d0 : 0 ≤ s.draws
  d1 : s.draws + j ≤ 1000000
  m0 : 0 ≤ s.mixed
  m1 : s.mixed < 1000000000000
  c : s.cells.length ≤ 1000
theorem Good.mono {j k : Nat} {s : S} (g : Good j s) (h : k ≤ j) : Good k s := ⟨g.d0, by have := g.d1; omega, g.m0, g.m1, g.c⟩
/-- after c draws at most -/
structure Adv (c : Nat) (s s' : S) : Prop where
  dk : s'.dk = s.dk
  good : ∀ j, Good (j + c) s → Good j s'
theorem Adv.trans {a b : Nat} {s s1 s2 : S} (h1 : Adv a s s1) (h2 : Adv b s1 s2) : Adv (a + b) s s2 := ⟨h2.dk.trans h1.dk, fun j g => h2.good j (h1.good (j + b) (g.mono (by omega)))⟩
theorem Adv.refl (s : S) : Adv 0 s s := ⟨rfl, fun j g => g⟩
theorem Adv.weak {a b : Nat} {s s1 : S} (h : Adv a s s1) (hl : a ≤ b) : Adv b s s1 := ⟨h.dk, fun j g => h.good j (g.mono (by omega))⟩

theorem log_lt {i : Int} {n : Nat} (h1 : 0 ≤ i) (h2 : i < 2 ^ n) (hn : 0 < n) : i.natAbs.log2 < n := by
  have h : i.natAbs < 2 ^ n := by
    have : (i.natAbs : Int) < ((2 ^ n : Nat) : Int) := by rw [Int.natAbs_of_nonneg h1]; push_cast; exact h2
    exact_mod_cast this
  by_cases h0 : i.natAbs = 0
  · rw [h0]; simpa using hn
  · exact (Nat.log2_lt h0).mpr h
theorem mul_ok {i j : Int} (h1 : 0 ≤ i) (h2 : i < 2 ^ 200) (h3 : 0 ≤ j) (h4 : j < 2 ^ 200) : mulD (.int i) (.int j) = some (.int (i * j)) := by
  show mulID (.int i) (.int j) = _
  unfold mulID iiCD
  have := log_lt h1 h2 (by decide)
  have := log_lt h3 h4 (by decide)
  simp only [show (decide (i.natAbs.log2 + j.natAbs.log2 < 1000000)) = true from decide_eq_true (by omega), if_true]
theorem mod_ok {i j : Int} (h : 0 < j) : modD (.int i) (.int j) = some (.int (i % j)) := by
  unfold modD iiCD
  simp only [decide_eq_true h, if_true]
theorem fdiv_ok {i j : Int} (h : 0 < j) (h2 : j < 2 ^ 200) : fdivD (.int i) (.int j) = some (.int (i / j)) := by
  unfold fdivD iiCD
  have := log_lt (by omega) h2 (by decide)
  simp only [decide_eq_true (show 0 < j ∧ j.natAbs.log2 < 9000 from ⟨h, by omega⟩), if_true]
theorem is_integer_ok {i : Int} {s : S} : r_is_integer [.int i] s = some (.bl true, s) := by
  refine run_is rfl ?_
  unfold b_is_integer
  simp (config := { maxSteps := 100000000 }) only [wp_seq, wp_ret, wp_asg, wp_drop, wp_ifS, wp_ifM, wp_op2, wp_test, wp_callD, wp_cons, wp_pure, wp_call, wp_tOr, wp_tAnd, wp_tNot, wp_and, wp_not, wp_tgN, wp_varI, wp_seqI, wp_itM, wp_ofL, wp_callL, wp_fit, wp_tup, wp_own, wp_chain, chainP, varP, ex_some, ex_some2, asB_bl, asSeq, addD_ii, subD_ii, ltD_ii, leD_ii, gtD_ii, geD_ii, eqD_ii, neD_ii, lenD_l, lenD_t, isi_ii, isi_ib, isi_tt, List.getElem?_cons_zero, List.getElem?_cons_succ, List.set_cons_zero, List.set_cons_succ, List.map_cons, List.map_nil, List.cons_append, List.nil_append, List.replicate, List.length_cons, List.length_nil, if_true, if_false, ite_true, ite_false, Bool.false_eq_true, Bool.not_true, Bool.not_false, true_and, and_true, Nat.reduceAdd, Nat.reduceSub, and_self]
theorem is_within_ok {i lo hi : Int} {s : S} : r_is_within [.int i, .int lo, .int hi] s = some (.bl (decide (lo ≤ i ∧ i ≤ hi)), s) := by
  refine run_is rfl ?_
  unfold b_is_within
  simp (config := { maxSteps := 100000000 }) only [wp_seq, wp_ret, wp_asg, wp_drop, wp_ifS, wp_ifM, wp_op2, wp_test, wp_callD, wp_cons, wp_pure, wp_call, wp_tOr, wp_tAnd, wp_tNot, wp_and, wp_not, wp_tgN, wp_varI, wp_seqI, wp_itM, wp_ofL, wp_callL, wp_fit, wp_tup, wp_own, wp_chain, chainP, varP, ex_some, ex_some2, asB_bl, asSeq, addD_ii, subD_ii, ltD_ii, leD_ii, gtD_ii, geD_ii, eqD_ii, neD_ii, lenD_l, lenD_t, isi_ii, isi_ib, isi_tt, List.getElem?_cons_zero, List.getElem?_cons_succ, List.set_cons_zero, List.set_cons_succ, List.map_cons, List.map_nil, List.cons_append, List.nil_append, List.replicate, List.length_cons, List.length_nil, if_true, if_false, ite_true, ite_false, Bool.false_eq_true, Bool.not_true, Bool.not_false, true_and, and_true, Nat.reduceAdd, Nat.reduceSub, and_self, is_integer_ok]
  by_cases h : lo ≤ i
  · simp [h]
  · simp [h]
theorem is_size_ok {i : Int} {s : S} : r_is_size [.int i] s = some (.bl (decide (1 ≤ i ∧ i ≤ 8)), s) := by
  refine run_is rfl ?_
  unfold b_is_size
  simp (config := { maxSteps := 100000000 }) only [wp_seq, wp_ret, wp_asg, wp_drop, wp_ifS, wp_ifM, wp_op2, wp_test, wp_callD, wp_cons, wp_pure, wp_call, wp_tOr, wp_tAnd, wp_tNot, wp_and, wp_not, wp_tgN, wp_varI, wp_seqI, wp_itM, wp_ofL, wp_callL, wp_fit, wp_tup, wp_own, wp_chain, chainP, varP, ex_some, ex_some2, asB_bl, asSeq, addD_ii, subD_ii, ltD_ii, leD_ii, gtD_ii, geD_ii, eqD_ii, neD_ii, lenD_l, lenD_t, isi_ii, isi_ib, isi_tt, List.getElem?_cons_zero, List.getElem?_cons_succ, List.set_cons_zero, List.set_cons_succ, List.map_cons, List.map_nil, List.cons_append, List.nil_append, List.replicate, List.length_cons, List.length_nil, if_true, if_false, ite_true, ite_false, Bool.false_eq_true, Bool.not_true, Bool.not_false, true_and, and_true, Nat.reduceAdd, Nat.reduceSub, and_self, is_within_ok]
theorem is_kind_ok {i n : Int} {s : S} : r_is_kind [.int n, .int i] s = some (.bl (decide (0 ≤ i ∧ i ≤ n - 1)), s) := by
  refine run_is rfl ?_
  unfold b_is_kind
  simp (config := { maxSteps := 100000000 }) only [wp_seq, wp_ret, wp_asg, wp_drop, wp_ifS, wp_ifM, wp_op2, wp_test, wp_callD, wp_cons, wp_pure, wp_call, wp_tOr, wp_tAnd, wp_tNot, wp_and, wp_not, wp_tgN, wp_varI, wp_seqI, wp_itM, wp_ofL, wp_callL, wp_fit, wp_tup, wp_own, wp_chain, chainP, varP, ex_some, ex_some2, asB_bl, asSeq, addD_ii, subD_ii, ltD_ii, leD_ii, gtD_ii, geD_ii, eqD_ii, neD_ii, lenD_l, lenD_t, isi_ii, isi_ib, isi_tt, List.getElem?_cons_zero, List.getElem?_cons_succ, List.set_cons_zero, List.set_cons_succ, List.map_cons, List.map_nil, List.cons_append, List.nil_append, List.replicate, List.length_cons, List.length_nil, if_true, if_false, ite_true, ite_false, Bool.false_eq_true, Bool.not_true, Bool.not_false, true_and, and_true, Nat.reduceAdd, Nat.reduceSub, and_self, is_within_ok]
theorem need_size_ok {i : Int} {s : S} (h : 1 ≤ i ∧ i ≤ 8) : r_need_size [.int i] s = some (.non, s) := by
  refine run_is rfl ?_
  unfold b_need_size
  simp (config := { maxSteps := 100000000 }) only [wp_seq, wp_ret, wp_asg, wp_drop, wp_ifS, wp_ifM, wp_op2, wp_test, wp_callD, wp_cons, wp_pure, wp_call, wp_tOr, wp_tAnd, wp_tNot, wp_and, wp_not, wp_tgN, wp_varI, wp_seqI, wp_itM, wp_ofL, wp_callL, wp_fit, wp_tup, wp_own, wp_chain, chainP, varP, ex_some, ex_some2, asB_bl, asSeq, addD_ii, subD_ii, ltD_ii, leD_ii, gtD_ii, geD_ii, eqD_ii, neD_ii, lenD_l, lenD_t, isi_ii, isi_ib, isi_tt, List.getElem?_cons_zero, List.getElem?_cons_succ, List.set_cons_zero, List.set_cons_succ, List.map_cons, List.map_nil, List.cons_append, List.nil_append, List.replicate, List.length_cons, List.length_nil, if_true, if_false, ite_true, ite_false, Bool.false_eq_true, Bool.not_true, Bool.not_false, true_and, and_true, Nat.reduceAdd, Nat.reduceSub, and_self, is_size_ok, h, decide_true]
theorem need_number_ok {i : Int} {s : S} (h : 0 ≤ i) : r_need_number [.int i] s = some (.non, s) := by
  refine run_is rfl ?_
  unfold b_need_number
  simp (config := { maxSteps := 100000000 }) only [wp_seq, wp_ret, wp_asg, wp_drop, wp_ifS, wp_ifM, wp_op2, wp_test, wp_callD, wp_cons, wp_pure, wp_call, wp_tOr, wp_tAnd, wp_tNot, wp_and, wp_not, wp_tgN, wp_varI, wp_seqI, wp_itM, wp_ofL, wp_callL, wp_fit, wp_tup, wp_own, wp_chain, chainP, varP, ex_some, ex_some2, asB_bl, asSeq, addD_ii, subD_ii, ltD_ii, leD_ii, gtD_ii, geD_ii, eqD_ii, neD_ii, lenD_l, lenD_t, isi_ii, isi_ib, isi_tt, List.getElem?_cons_zero, List.getElem?_cons_succ, List.set_cons_zero, List.set_cons_succ, List.map_cons, List.map_nil, List.cons_append, List.nil_append, List.replicate, List.length_cons, List.length_nil, if_true, if_false, ite_true, ite_false, Bool.false_eq_true, Bool.not_true, Bool.not_false, true_and, and_true, Nat.reduceAdd, Nat.reduceSub, and_self, is_integer_ok]
  simp [Int.not_lt.mpr h, wp_pure]
abbrev I (ns : List Int) : List D := ns.map .int
theorem I_get {ns : List Int} {i : Nat} {d : D} (h : (I ns)[i]? = some d) : ∃ k, ns[i]? = some k ∧ d = .int k := by
  unfold I at h
  rw [List.getElem?_map] at h
  cases q : ns[i]? with
  | none => rw [q] at h; cases h
  | some k => rw [q] at h; cases h; exact ⟨k, rfl, rfl⟩
theorem I_mem {ns : List Int} {i : Nat} {d : D} (h : (I ns)[i]? = some d) : ∃ k, k ∈ ns ∧ d = .int k := by
  obtain ⟨k, h1, h2⟩ := I_get h
  exact ⟨k, List.mem_of_getElem? h1, h2⟩
theorem is_deck_ok {n : Int} {ns : List Int} {b : Bool} {s : S} (hn : 1 ≤ n ∧ n ≤ 8) (hl : ns.length ≤ 60) (h : ∀ k ∈ ns, 0 ≤ k ∧ k ≤ n - 1) : r_is_deck [.int n, .tup b (I ns)] s = some (.bl true, s) := by
  refine run_is rfl ?_
  unfold b_is_deck
  simp (config := { maxSteps := 100000000 }) only [wp_seq, wp_ret, wp_asg, wp_drop, wp_ifS, wp_ifM, wp_op2, wp_test, wp_callD, wp_cons, wp_pure, wp_call, wp_tOr, wp_tAnd, wp_tNot, wp_and, wp_not, wp_tgN, wp_varI, wp_seqI, wp_itM, wp_ofL, wp_callL, wp_fit, wp_tup, wp_own, wp_chain, chainP, varP, ex_some, ex_some2, asB_bl, asSeq, addD_ii, subD_ii, ltD_ii, leD_ii, gtD_ii, geD_ii, eqD_ii, neD_ii, lenD_l, lenD_t, isi_ii, isi_ib, isi_tt, List.getElem?_cons_zero, List.getElem?_cons_succ, List.set_cons_zero, List.set_cons_succ, List.map_cons, List.map_nil, List.cons_append, List.nil_append, List.replicate, List.length_cons, List.length_nil, if_true, if_false, ite_true, ite_false, Bool.false_eq_true, Bool.not_true, Bool.not_false, true_and, and_true, Nat.reduceAdd, Nat.reduceSub, and_self, need_size_ok hn]
  simp only [show decide ((60 : Int) < ((I ns).length : Int)) = false from decide_eq_false (by rw [List.length_map]; omega), if_false, Bool.false_eq_true, wp_pure]
  refine wp_allM ?_
  simp (config := { maxSteps := 100000000 }) only [wp_seq, wp_ret, wp_asg, wp_drop, wp_ifS, wp_ifM, wp_op2, wp_test, wp_callD, wp_cons, wp_pure, wp_call, wp_tOr, wp_tAnd, wp_tNot, wp_and, wp_not, wp_tgN, wp_varI, wp_seqI, wp_itM, wp_ofL, wp_callL, wp_fit, wp_tup, wp_own, wp_chain, chainP, varP, ex_some, ex_some2, asB_bl, asSeq, addD_ii, subD_ii, ltD_ii, leD_ii, gtD_ii, geD_ii, eqD_ii, neD_ii, lenD_l, lenD_t, isi_ii, isi_ib, isi_tt, List.getElem?_cons_zero, List.getElem?_cons_succ, List.set_cons_zero, List.set_cons_succ, List.map_cons, List.map_nil, List.cons_append, List.nil_append, List.replicate, List.length_cons, List.length_nil, if_true, if_false, ite_true, ite_false, Bool.false_eq_true, Bool.not_true, Bool.not_false, true_and, and_true, Nat.reduceAdd, Nat.reduceSub, and_self, wipeR, backR, slotKeep, List.set]
  refine wp_allL (fun _ s1 => s1 = ⟨s, [.dat (.int n), .dat (.tup b (I ns)), .un]⟩) (by rfl) (fun i d s1 hd hs => ?_) (fun s1 hs => ?_)
  · subst hs
    obtain ⟨k, hk, rfl⟩ := I_mem hd
    simp (config := { maxSteps := 100000000 }) only [wp_seq, wp_ret, wp_asg, wp_drop, wp_ifS, wp_ifM, wp_op2, wp_test, wp_callD, wp_cons, wp_pure, wp_call, wp_tOr, wp_tAnd, wp_tNot, wp_and, wp_not, wp_tgN, wp_varI, wp_seqI, wp_itM, wp_ofL, wp_callL, wp_fit, wp_tup, wp_own, wp_chain, chainP, varP, ex_some, ex_some2, asB_bl, asSeq, addD_ii, subD_ii, ltD_ii, leD_ii, gtD_ii, geD_ii, eqD_ii, neD_ii, lenD_l, lenD_t, isi_ii, isi_ib, isi_tt, List.getElem?_cons_zero, List.getElem?_cons_succ, List.set_cons_zero, List.set_cons_succ, List.map_cons, List.map_nil, List.cons_append, List.nil_append, List.replicate, List.length_cons, List.length_nil, if_true, if_false, ite_true, ite_false, Bool.false_eq_true, Bool.not_true, Bool.not_false, true_and, and_true, Nat.reduceAdd, Nat.reduceSub, and_self, wipeR, backR, slotKeep, List.set, is_kind_ok]
    exact congrArg D.bl (decide_eq_true (h k hk))
  · subst hs
    exact ⟨rfl, rfl⟩
theorem need_deck_ok {n : Int} {ns : List Int} {b : Bool} {s : S} (hn : 1 ≤ n ∧ n ≤ 8) (hl : ns.length ≤ 60) (h : ∀ k ∈ ns, 0 ≤ k ∧ k ≤ n - 1) : r_need_deck [.int n, .tup b (I ns)] s = some (.non, s) := by
  refine run_is rfl ?_
  unfold b_need_deck
  simp (config := { maxSteps := 100000000 }) only [wp_seq, wp_ret, wp_asg, wp_drop, wp_ifS, wp_ifM, wp_op2, wp_test, wp_callD, wp_cons, wp_pure, wp_call, wp_tOr, wp_tAnd, wp_tNot, wp_and, wp_not, wp_tgN, wp_varI, wp_seqI, wp_itM, wp_ofL, wp_callL, wp_fit, wp_tup, wp_own, wp_chain, chainP, varP, ex_some, ex_some2, asB_bl, asSeq, addD_ii, subD_ii, ltD_ii, leD_ii, gtD_ii, geD_ii, eqD_ii, neD_ii, lenD_l, lenD_t, isi_ii, isi_ib, isi_tt, List.getElem?_cons_zero, List.getElem?_cons_succ, List.set_cons_zero, List.set_cons_succ, List.map_cons, List.map_nil, List.cons_append, List.nil_append, List.replicate, List.length_cons, List.length_nil, if_true, if_false, ite_true, ite_false, Bool.false_eq_true, Bool.not_true, Bool.not_false, true_and, and_true, Nat.reduceAdd, Nat.reduceSub, and_self, is_deck_ok hn hl h]
/-- an order: each place once -/
def OrdP (ns : List Int) : Prop := ns.Perm ((List.range ns.length).map fun k : Nat => (k : Int))
theorem rng_eq (n : Nat) : rng 0 n = I ((List.range n).map fun k : Nat => (k : Int)) := by
  unfold rng I
  rw [List.map_map]
  apply List.map_congr_left
  intro k _
  show D.int (0 + (k : Int)) = D.int (k : Int)
  rw [Int.zero_add]
theorem sorted_range (n : Nat) : ((List.range n).map fun k : Nat => (k : Int)).Pairwise (· ≤ ·) := by
  rw [List.pairwise_map]
  exact List.pairwise_lt_range.imp fun h => by omega
theorem OrdP.sort {ns : List Int} (h : OrdP ns) : sortI ns = (List.range ns.length).map fun k : Nat => (k : Int) := (sorted_one (h.symm) (sorted_range _)).symm
theorem OrdP.range {ns : List Int} (h : OrdP ns) : ∀ k ∈ ns, 0 ≤ k ∧ k < ns.length := fun k hk => by
  obtain ⟨j, hj, rfl⟩ := List.mem_map.mp (h.mem_iff.mp hk)
  have := List.mem_range.mp hj
  omega
theorem eqv_ints : ∀ (ns : List Int), PyData.eqvAll (ns.map .int) (ns.map .int) = true
  | [] => rfl
  | n :: ns => by
    show (PyData.eqv (.int n) (.int n) && PyData.eqvAll (ns.map .int) (ns.map .int)) = true
    rw [eqv_ints ns]
    show ((n == n) && true) = true
    simp
theorem toPys_I : ∀ (ns : List Int), toPys (I ns) = some (ns.map .int)
  | [] => rfl
  | n :: ns => by
    show (toPy (.int n)).bind (fun a => (toPys (I ns)).map (a :: ·)) = _
    rw [toPys_I ns]; rfl
theorem eqD_same (ns : List Int) : eqD (.lst (I ns)) (.lst (I ns)) = some (.bl true) := by
  show eqPy (.lst (I ns)) (.lst (I ns)) = _
  unfold eqPy toPy
  rw [toPys_I]
  simp only [Option.map_some, Option.bind_some]
  rw [if_pos ⟨shaped_ints ns, shaped_ints ns⟩]
  show some (D.bl (PyData.eqvAll _ _)) = _
  rw [eqv_ints]
theorem hr {n : Nat} (h : n ≤ 1000) : RgOk 0 (n : Int) := RgOk.of_le (Int.le_refl 0) (by omega) (by omega) (by omega)
theorem rgD_bind {d : D} : rgD d = (asI d).bind fun n => if RgOk 0 n then some (rng 0 (n - 0).toNat) else none := by unfold rgD; exact Eq.refl _
theorem rgD_int {n : Nat} (h : n ≤ 1000) : rgD (.int n) = some (rng 0 n) := by
  have e : asI (.int (n : Int)) = some (n : Int) := rfl
  rw [rgD_bind, e, Option.bind_some, if_pos (hr h), Int.sub_zero, Int.toNat_natCast]
theorem is_order_ok {ns : List Int} {b : Bool} {s : S} (h : OrdP ns) (hl : ns.length ≤ 1000) : r_is_order [.int (ns.length : Int), .tup b (I ns)] s = some (.bl true, s) := by
  refine run_is rfl ?_
  unfold b_is_order
  simp (config := { maxSteps := 100000000 }) only [wp_seq, wp_ret, wp_asg, wp_drop, wp_ifS, wp_ifM, wp_op2, wp_test, wp_callD, wp_cons, wp_pure, wp_call, wp_tOr, wp_tAnd, wp_tNot, wp_and, wp_not, wp_tgN, wp_varI, wp_seqI, wp_itM, wp_ofL, wp_callL, wp_fit, wp_tup, wp_own, wp_chain, chainP, varP, ex_some, ex_some2, asB_bl, asSeq, addD_ii, subD_ii, ltD_ii, leD_ii, gtD_ii, geD_ii, eqD_ii, neD_ii, lenD_l, lenD_t, isi_ii, isi_ib, isi_tt, List.getElem?_cons_zero, List.getElem?_cons_succ, List.set_cons_zero, List.set_cons_succ, List.map_cons, List.map_nil, List.cons_append, List.nil_append, List.replicate, List.length_cons, List.length_nil, if_true, if_false, ite_true, ite_false, Bool.false_eq_true, Bool.not_true, Bool.not_false, true_and, and_true, Nat.reduceAdd, Nat.reduceSub, and_self, need_number_ok (show (0 : Int) ≤ (ns.length : Int) by omega)]
  simp only [show (!((I ns).length : Int) == (ns.length : Int)) = false from by simp [I], if_false, Bool.false_eq_true, wp_pure]
  refine wp_allM ?_
  simp (config := { maxSteps := 100000000 }) only [wp_seq, wp_ret, wp_asg, wp_drop, wp_ifS, wp_ifM, wp_op2, wp_test, wp_callD, wp_cons, wp_pure, wp_call, wp_tOr, wp_tAnd, wp_tNot, wp_and, wp_not, wp_tgN, wp_varI, wp_seqI, wp_itM, wp_ofL, wp_callL, wp_fit, wp_tup, wp_own, wp_chain, chainP, varP, ex_some, ex_some2, asB_bl, asSeq, addD_ii, subD_ii, ltD_ii, leD_ii, gtD_ii, geD_ii, eqD_ii, neD_ii, lenD_l, lenD_t, isi_ii, isi_ib, isi_tt, List.getElem?_cons_zero, List.getElem?_cons_succ, List.set_cons_zero, List.set_cons_succ, List.map_cons, List.map_nil, List.cons_append, List.nil_append, List.replicate, List.length_cons, List.length_nil, if_true, if_false, ite_true, ite_false, Bool.false_eq_true, Bool.not_true, Bool.not_false, true_and, and_true, Nat.reduceAdd, Nat.reduceSub, and_self, wipeR, backR, slotKeep, List.set]
  refine wp_allL (fun _ s1 => s1 = ⟨s, [.dat (.int ns.length), .dat (.tup b (I ns)), .un]⟩) (by rfl) (fun i d s1 hd hs => ?_) (fun s1 hs => ?_)
  · subst hs
    obtain ⟨k, hk, rfl⟩ := I_mem hd
    simp (config := { maxSteps := 100000000 }) only [wp_seq, wp_ret, wp_asg, wp_drop, wp_ifS, wp_ifM, wp_op2, wp_test, wp_callD, wp_cons, wp_pure, wp_call, wp_tOr, wp_tAnd, wp_tNot, wp_and, wp_not, wp_tgN, wp_varI, wp_seqI, wp_itM, wp_ofL, wp_callL, wp_fit, wp_tup, wp_own, wp_chain, chainP, varP, ex_some, ex_some2, asB_bl, asSeq, addD_ii, subD_ii, ltD_ii, leD_ii, gtD_ii, geD_ii, eqD_ii, neD_ii, lenD_l, lenD_t, isi_ii, isi_ib, isi_tt, List.getElem?_cons_zero, List.getElem?_cons_succ, List.set_cons_zero, List.set_cons_succ, List.map_cons, List.map_nil, List.cons_append, List.nil_append, List.replicate, List.length_cons, List.length_nil, if_true, if_false, ite_true, ite_false, Bool.false_eq_true, Bool.not_true, Bool.not_false, true_and, and_true, Nat.reduceAdd, Nat.reduceSub, and_self, wipeR, backR, slotKeep, List.set, is_integer_ok]
  · subst hs
    have e1 : sortD [.tup b (I ns)] = some (I ((List.range ns.length).map fun k : Nat => (k : Int))) := by
      unfold sortD
      simp only [asSeq, Option.bind_some]
      rw [show intsD (I ns) = some ns from intsD_of ns]
      simp only [Option.bind_some]
      rw [if_pos (by rw [sizeLine_eq]; omega), h.sort]
    have e2 : Wp (listRgM (varM 0)) ⟨s, [.dat (.int ns.length), .dat (.tup b (I ns)), .un]⟩ = fun Q => Q (I ((List.range ns.length).map fun k : Nat => (k : Int))) ⟨s, [.dat (.int ns.length), .dat (.tup b (I ns)), .un]⟩ := by
      funext Q
      unfold listRgM
      rw [wp_bind, wp_var rfl, rgD_int hl, wp_lift_some, rng_eq]
    simp (config := { maxSteps := 100000000 }) only [wp_seq, wp_ret, wp_asg, wp_drop, wp_ifS, wp_ifM, wp_op2, wp_test, wp_callD, wp_cons, wp_pure, wp_call, wp_tOr, wp_tAnd, wp_tNot, wp_and, wp_not, wp_tgN, wp_varI, wp_seqI, wp_itM, wp_ofL, wp_callL, wp_fit, wp_tup, wp_own, wp_chain, chainP, varP, ex_some, ex_some2, asB_bl, asSeq, addD_ii, subD_ii, ltD_ii, leD_ii, gtD_ii, geD_ii, eqD_ii, neD_ii, lenD_l, lenD_t, isi_ii, isi_ib, isi_tt, List.getElem?_cons_zero, List.getElem?_cons_succ, List.set_cons_zero, List.set_cons_succ, List.map_cons, List.map_nil, List.cons_append, List.nil_append, List.replicate, List.length_cons, List.length_nil, if_true, if_false, ite_true, ite_false, Bool.false_eq_true, Bool.not_true, Bool.not_false, true_and, and_true, Nat.reduceAdd, Nat.reduceSub, and_self, wipeR, backR, slotKeep, List.set, e1, e2, eqD_same]
theorem need_order_ok {ns : List Int} {b : Bool} {s : S} (h : OrdP ns) (hl : ns.length ≤ 1000) : r_need_order [.int (ns.length : Int), .tup b (I ns)] s = some (.non, s) := by
  refine run_is rfl ?_
  unfold b_need_order
  simp (config := { maxSteps := 100000000 }) only [wp_seq, wp_ret, wp_asg, wp_drop, wp_ifS, wp_ifM, wp_op2, wp_test, wp_callD, wp_cons, wp_pure, wp_call, wp_tOr, wp_tAnd, wp_tNot, wp_and, wp_not, wp_tgN, wp_varI, wp_seqI, wp_itM, wp_ofL, wp_callL, wp_fit, wp_tup, wp_own, wp_chain, chainP, varP, ex_some, ex_some2, asB_bl, asSeq, addD_ii, subD_ii, ltD_ii, leD_ii, gtD_ii, geD_ii, eqD_ii, neD_ii, lenD_l, lenD_t, isi_ii, isi_ib, isi_tt, List.getElem?_cons_zero, List.getElem?_cons_succ, List.set_cons_zero, List.set_cons_succ, List.map_cons, List.map_nil, List.cons_append, List.nil_append, List.replicate, List.length_cons, List.length_nil, if_true, if_false, ite_true, ite_false, Bool.false_eq_true, Bool.not_true, Bool.not_false, true_and, and_true, Nat.reduceAdd, Nat.reduceSub, and_self, is_order_ok h hl]
theorem lenI (ns : List Int) : (I ns).length = ns.length := List.length_map ..
theorem need_some_order_ok {ns : List Int} {b : Bool} {s : S} (h : OrdP ns) (hl : ns.length ≤ 60) : r_need_some_order [.tup b (I ns)] s = some (.non, s) := by
  refine run_is rfl ?_
  unfold b_need_some_order
  simp (config := { maxSteps := 100000000 }) only [wp_seq, wp_ret, wp_asg, wp_drop, wp_ifS, wp_ifM, wp_op2, wp_test, wp_callD, wp_cons, wp_pure, wp_call, wp_tOr, wp_tAnd, wp_tNot, wp_and, wp_not, wp_tgN, wp_varI, wp_seqI, wp_itM, wp_ofL, wp_callL, wp_fit, wp_tup, wp_own, wp_chain, chainP, varP, ex_some, ex_some2, asB_bl, asSeq, addD_ii, subD_ii, ltD_ii, leD_ii, gtD_ii, geD_ii, eqD_ii, neD_ii, lenD_l, lenD_t, isi_ii, isi_ib, isi_tt, List.getElem?_cons_zero, List.getElem?_cons_succ, List.set_cons_zero, List.set_cons_succ, List.map_cons, List.map_nil, List.cons_append, List.nil_append, List.replicate, List.length_cons, List.length_nil, if_true, if_false, ite_true, ite_false, Bool.false_eq_true, Bool.not_true, Bool.not_false, true_and, and_true, Nat.reduceAdd, Nat.reduceSub, and_self, lenI, need_order_ok h (by omega), show decide ((60 : Int) < (ns.length : Int)) = false from decide_eq_false (by omega)]
/-- ds at the places os -/
def app (ds os : List Int) : List Int := os.map fun k => ds.getD k.toNat 0
theorem ix_I {ds : List Int} {b : Bool} {k : Int} (h0 : 0 ≤ k) (h1 : k < ds.length) : ixD (.tup b (I ds)) (.int k) = some (.int (ds.getD k.toNat 0)) := by
  show L2.atI (I ds) k = _
  obtain ⟨j, rfl⟩ : ∃ j : Nat, k = j := ⟨k.toNat, by omega⟩
  rw [Int.toNat_natCast]
  have hk : j < ds.length := by omega
  rw [atI_nat (j := j) (v := D.int (ds.getD j 0)) (by rw [List.getElem?_map, List.getElem?_eq_getElem hk, List.getD_eq_getElem?_getD, List.getElem?_eq_getElem hk]; rfl)]
theorem laid_ok {ds os : List Int} {b c : Bool} {s : S} (hd : ∀ k ∈ ds, 0 ≤ k ∧ k ≤ 7) (ho : OrdP os) (hl : os.length = ds.length) (h60 : ds.length ≤ 60) : r_laid [.tup b (I ds), .tup c (I os)] s = some (.tup true (I (app ds os)), s) := by
  refine run_is rfl ?_
  unfold b_laid
  simp (config := { maxSteps := 100000000 }) only [wp_seq, wp_ret, wp_asg, wp_drop, wp_ifS, wp_ifM, wp_op2, wp_test, wp_callD, wp_cons, wp_pure, wp_call, wp_tOr, wp_tAnd, wp_tNot, wp_and, wp_not, wp_tgN, wp_varI, wp_seqI, wp_itM, wp_ofL, wp_callL, wp_fit, wp_tup, wp_own, wp_chain, chainP, varP, ex_some, ex_some2, asB_bl, asSeq, addD_ii, subD_ii, ltD_ii, leD_ii, gtD_ii, geD_ii, eqD_ii, neD_ii, lenD_l, lenD_t, isi_ii, isi_ib, isi_tt, List.getElem?_cons_zero, List.getElem?_cons_succ, List.set_cons_zero, List.set_cons_succ, List.map_cons, List.map_nil, List.cons_append, List.nil_append, List.replicate, List.length_cons, List.length_nil, if_true, if_false, ite_true, ite_false, Bool.false_eq_true, Bool.not_true, Bool.not_false, true_and, and_true, Nat.reduceAdd, Nat.reduceSub, and_self, need_deck_ok (show (1 : Int) ≤ 8 ∧ (8 : Int) ≤ 8 by omega) h60 (fun k hk => by have := hd k hk; omega), lenI, ← hl, need_order_ok ho (show os.length ≤ 1000 by omega)]
  refine comp_map (ds := I os) (f := fun d => match d with | .int k => .int (ds.getD k.toNat 0) | d => d) rfl (by simp (config := { maxSteps := 100000000 }) only [wp_seq, wp_ret, wp_asg, wp_drop, wp_ifS, wp_ifM, wp_op2, wp_test, wp_callD, wp_cons, wp_pure, wp_call, wp_tOr, wp_tAnd, wp_tNot, wp_and, wp_not, wp_tgN, wp_varI, wp_seqI, wp_itM, wp_ofL, wp_callL, wp_fit, wp_tup, wp_own, wp_chain, chainP, varP, ex_some, ex_some2, asB_bl, asSeq, addD_ii, subD_ii, ltD_ii, leD_ii, gtD_ii, geD_ii, eqD_ii, neD_ii, lenD_l, lenD_t, isi_ii, isi_ib, isi_tt, List.getElem?_cons_zero, List.getElem?_cons_succ, List.set_cons_zero, List.set_cons_succ, List.map_cons, List.map_nil, List.cons_append, List.nil_append, List.replicate, List.length_cons, List.length_nil, if_true, if_false, ite_true, ite_false, Bool.false_eq_true, Bool.not_true, Bool.not_false, true_and, and_true, Nat.reduceAdd, Nat.reduceSub, and_self]) (by rw [lenI, sizeLine_eq]; omega) (fun d hdm => ?_) ?_
  · obtain ⟨k, hk, rfl⟩ := List.mem_map.mp hdm
    have := ho.range k hk
    simp (config := { maxSteps := 100000000 }) only [wp_seq, wp_ret, wp_asg, wp_drop, wp_ifS, wp_ifM, wp_op2, wp_test, wp_callD, wp_cons, wp_pure, wp_call, wp_tOr, wp_tAnd, wp_tNot, wp_and, wp_not, wp_tgN, wp_varI, wp_seqI, wp_itM, wp_ofL, wp_callL, wp_fit, wp_tup, wp_own, wp_chain, chainP, varP, ex_some, ex_some2, asB_bl, asSeq, addD_ii, subD_ii, ltD_ii, leD_ii, gtD_ii, geD_ii, eqD_ii, neD_ii, lenD_l, lenD_t, isi_ii, isi_ib, isi_tt, List.getElem?_cons_zero, List.getElem?_cons_succ, List.set_cons_zero, List.set_cons_succ, List.map_cons, List.map_nil, List.cons_append, List.nil_append, List.replicate, List.length_cons, List.length_nil, if_true, if_false, ite_true, ite_false, Bool.false_eq_true, Bool.not_true, Bool.not_false, true_and, and_true, Nat.reduceAdd, Nat.reduceSub, and_self, ix_I this.1 (show k < (ds.length : Int) by omega)]
  · refine ⟨_, rfl, ?_⟩
    refine ⟨congrArg (D.tup true) ?_, rfl⟩
    unfold app I
    rw [List.map_map, List.map_map]
    rfl
def atF (ds : List Int) : D → D := fun d => match d with | .int k => .int (ds.getD k.toNat 0) | d => d
theorem map_at (ds os : List Int) : (I os).map (atF ds) = I (app ds os) := by
  unfold app I
  rw [List.map_map, List.map_map]
  rfl
theorem together_ok {as bs : List Int} {b c : Bool} {s : S} (ha : OrdP as) (hb : OrdP bs) (hl : bs.length = as.length) (h60 : as.length ≤ 60) : r_together [.tup b (I as), .tup c (I bs)] s = some (.tup true (I (app as bs)), s) := by
  refine run_is rfl ?_
  unfold b_together
  simp (config := { maxSteps := 100000000 }) only [wp_seq, wp_ret, wp_asg, wp_drop, wp_ifS, wp_ifM, wp_op2, wp_test, wp_callD, wp_cons, wp_pure, wp_call, wp_tOr, wp_tAnd, wp_tNot, wp_and, wp_not, wp_tgN, wp_varI, wp_seqI, wp_itM, wp_ofL, wp_callL, wp_fit, wp_tup, wp_own, wp_chain, chainP, varP, ex_some, ex_some2, asB_bl, asSeq, addD_ii, subD_ii, ltD_ii, leD_ii, gtD_ii, geD_ii, eqD_ii, neD_ii, lenD_l, lenD_t, isi_ii, isi_ib, isi_tt, List.getElem?_cons_zero, List.getElem?_cons_succ, List.set_cons_zero, List.set_cons_succ, List.map_cons, List.map_nil, List.cons_append, List.nil_append, List.replicate, List.length_cons, List.length_nil, if_true, if_false, ite_true, ite_false, Bool.false_eq_true, Bool.not_true, Bool.not_false, true_and, and_true, Nat.reduceAdd, Nat.reduceSub, and_self, need_some_order_ok ha h60, lenI, ← hl, need_order_ok hb (show bs.length ≤ 1000 by omega)]
  refine comp_map (ds := I bs) (f := atF as) rfl (by simp (config := { maxSteps := 100000000 }) only [wp_seq, wp_ret, wp_asg, wp_drop, wp_ifS, wp_ifM, wp_op2, wp_test, wp_callD, wp_cons, wp_pure, wp_call, wp_tOr, wp_tAnd, wp_tNot, wp_and, wp_not, wp_tgN, wp_varI, wp_seqI, wp_itM, wp_ofL, wp_callL, wp_fit, wp_tup, wp_own, wp_chain, chainP, varP, ex_some, ex_some2, asB_bl, asSeq, addD_ii, subD_ii, ltD_ii, leD_ii, gtD_ii, geD_ii, eqD_ii, neD_ii, lenD_l, lenD_t, isi_ii, isi_ib, isi_tt, List.getElem?_cons_zero, List.getElem?_cons_succ, List.set_cons_zero, List.set_cons_succ, List.map_cons, List.map_nil, List.cons_append, List.nil_append, List.replicate, List.length_cons, List.length_nil, if_true, if_false, ite_true, ite_false, Bool.false_eq_true, Bool.not_true, Bool.not_false, true_and, and_true, Nat.reduceAdd, Nat.reduceSub, and_self]) (by rw [lenI, sizeLine_eq]; omega) (fun d hdm => ?_) ?_
  · obtain ⟨k, hk, rfl⟩ := List.mem_map.mp hdm
    have := hb.range k hk
    simp (config := { maxSteps := 100000000 }) only [wp_seq, wp_ret, wp_asg, wp_drop, wp_ifS, wp_ifM, wp_op2, wp_test, wp_callD, wp_cons, wp_pure, wp_call, wp_tOr, wp_tAnd, wp_tNot, wp_and, wp_not, wp_tgN, wp_varI, wp_seqI, wp_itM, wp_ofL, wp_callL, wp_fit, wp_tup, wp_own, wp_chain, chainP, varP, ex_some, ex_some2, asB_bl, asSeq, addD_ii, subD_ii, ltD_ii, leD_ii, gtD_ii, geD_ii, eqD_ii, neD_ii, lenD_l, lenD_t, isi_ii, isi_ib, isi_tt, List.getElem?_cons_zero, List.getElem?_cons_succ, List.set_cons_zero, List.set_cons_succ, List.map_cons, List.map_nil, List.cons_append, List.nil_append, List.replicate, List.length_cons, List.length_nil, if_true, if_false, ite_true, ite_false, Bool.false_eq_true, Bool.not_true, Bool.not_false, true_and, and_true, Nat.reduceAdd, Nat.reduceSub, and_self, ix_I this.1 (show k < (as.length : Int) by omega)]
    rfl
  · exact ⟨_, rfl, congrArg (D.tup true) (map_at as bs), rfl⟩
theorem opposite_ok {os : List Int} {b : Bool} {s : S} (h : OrdP os) (hl : os.length ≤ 60) : r_opposite [.tup b (I os)] s = some (.tup false (I os.reverse), s) := by
  refine run_is rfl ?_
  unfold b_opposite turnDM
  simp (config := { maxSteps := 100000000 }) only [wp_seq, wp_ret, wp_asg, wp_drop, wp_ifS, wp_ifM, wp_op2, wp_test, wp_callD, wp_cons, wp_pure, wp_call, wp_tOr, wp_tAnd, wp_tNot, wp_and, wp_not, wp_tgN, wp_varI, wp_seqI, wp_itM, wp_ofL, wp_callL, wp_fit, wp_tup, wp_own, wp_chain, chainP, varP, ex_some, ex_some2, asB_bl, asSeq, addD_ii, subD_ii, ltD_ii, leD_ii, gtD_ii, geD_ii, eqD_ii, neD_ii, lenD_l, lenD_t, isi_ii, isi_ib, isi_tt, List.getElem?_cons_zero, List.getElem?_cons_succ, List.set_cons_zero, List.set_cons_succ, List.map_cons, List.map_nil, List.cons_append, List.nil_append, List.replicate, List.length_cons, List.length_nil, if_true, if_false, ite_true, ite_false, Bool.false_eq_true, Bool.not_true, Bool.not_false, true_and, and_true, Nat.reduceAdd, Nat.reduceSub, and_self, need_some_order_ok h hl, wp_bind, turnD, wp_lift_some]
  exact congrArg (D.tup false) List.map_reverse.symm
def cntF (ds : List Int) : D → D := fun d => match d with | .int k => .int ((ds.count k : Nat) : Int) | d => d
def counts (n : Nat) (ds : List Int) : List Int := (List.range n).map fun k : Nat => ((ds.count (k : Int) : Nat) : Int)
theorem counts_ok {n : Nat} {ds : List Int} {s : S} (hn : 1 ≤ n ∧ n ≤ 8) (hl : ds.length ≤ 60) (h : ∀ k ∈ ds, 0 ≤ k ∧ k ≤ (n : Int) - 1) : r_counts_of [.int (n : Int), .tup true (I ds)] s = some (.tup true (I (counts n ds)), s) := by
  refine run_is rfl ?_
  unfold b_counts_of countM
  simp (config := { maxSteps := 100000000 }) only [wp_seq, wp_ret, wp_asg, wp_drop, wp_ifS, wp_ifM, wp_op2, wp_test, wp_callD, wp_cons, wp_pure, wp_call, wp_tOr, wp_tAnd, wp_tNot, wp_and, wp_not, wp_tgN, wp_varI, wp_seqI, wp_itM, wp_ofL, wp_callL, wp_fit, wp_tup, wp_own, wp_chain, chainP, varP, ex_some, ex_some2, asB_bl, asSeq, addD_ii, subD_ii, ltD_ii, leD_ii, gtD_ii, geD_ii, eqD_ii, neD_ii, lenD_l, lenD_t, isi_ii, isi_ib, isi_tt, List.getElem?_cons_zero, List.getElem?_cons_succ, List.set_cons_zero, List.set_cons_succ, List.map_cons, List.map_nil, List.cons_append, List.nil_append, List.replicate, List.length_cons, List.length_nil, if_true, if_false, ite_true, ite_false, Bool.false_eq_true, Bool.not_true, Bool.not_false, true_and, and_true, Nat.reduceAdd, Nat.reduceSub, and_self, need_deck_ok (show (1 : Int) ≤ (n : Int) ∧ (n : Int) ≤ 8 by omega) hl h]
  refine comp_map (ds := I ((List.range n).map fun k : Nat => (k : Int))) (f := cntF ds) rfl ?_ (by rw [lenI, List.length_map, List.length_range, sizeLine_eq]; omega) (fun d hdm => ?_) ?_
  · simp (config := { maxSteps := 100000000 }) only [wp_seq, wp_ret, wp_asg, wp_drop, wp_ifS, wp_ifM, wp_op2, wp_test, wp_callD, wp_cons, wp_pure, wp_call, wp_tOr, wp_tAnd, wp_tNot, wp_and, wp_not, wp_tgN, wp_varI, wp_seqI, wp_itM, wp_ofL, wp_callL, wp_fit, wp_tup, wp_own, wp_chain, chainP, varP, ex_some, ex_some2, asB_bl, asSeq, addD_ii, subD_ii, ltD_ii, leD_ii, gtD_ii, geD_ii, eqD_ii, neD_ii, lenD_l, lenD_t, isi_ii, isi_ib, isi_tt, List.getElem?_cons_zero, List.getElem?_cons_succ, List.set_cons_zero, List.set_cons_succ, List.map_cons, List.map_nil, List.cons_append, List.nil_append, List.replicate, List.length_cons, List.length_nil, if_true, if_false, ite_true, ite_false, Bool.false_eq_true, Bool.not_true, Bool.not_false, true_and, and_true, Nat.reduceAdd, Nat.reduceSub, and_self, rng1D]
    rw [if_pos (by omega)]
    refine ⟨_, rfl, ?_⟩
    rw [Int.toNat_natCast]
    exact rng_eq n
  · obtain ⟨k, hk, rfl⟩ := List.mem_map.mp hdm
    simp (config := { maxSteps := 100000000 }) only [wp_seq, wp_ret, wp_asg, wp_drop, wp_ifS, wp_ifM, wp_op2, wp_test, wp_callD, wp_cons, wp_pure, wp_call, wp_tOr, wp_tAnd, wp_tNot, wp_and, wp_not, wp_tgN, wp_varI, wp_seqI, wp_itM, wp_ofL, wp_callL, wp_fit, wp_tup, wp_own, wp_chain, chainP, varP, ex_some, ex_some2, asB_bl, asSeq, addD_ii, subD_ii, ltD_ii, leD_ii, gtD_ii, geD_ii, eqD_ii, neD_ii, lenD_l, lenD_t, isi_ii, isi_ib, isi_tt, List.getElem?_cons_zero, List.getElem?_cons_succ, List.set_cons_zero, List.set_cons_succ, List.map_cons, List.map_nil, List.cons_append, List.nil_append, List.replicate, List.length_cons, List.length_nil, if_true, if_false, ite_true, ite_false, Bool.false_eq_true, Bool.not_true, Bool.not_false, true_and, and_true, Nat.reduceAdd, Nat.reduceSub, and_self, wp_bind, wp_lift, cntD]
    rw [show intsD (I ds) = some ds from intsD_of ds]
    exact ⟨_, rfl, rfl⟩
  · refine ⟨_, rfl, congrArg (D.tup true) ?_, rfl⟩
    unfold counts I
    rw [List.map_map, List.map_map, List.map_map]
    rfl
/-- where each card of the first i places lies -/
def undK (os : List Int) : Nat → List Int
  | 0 => List.replicate os.length 0
  | i + 1 => (undK os i).set (os.getD i 0).toNat (i : Int)
theorem undK_succ {os : List Int} {i : Nat} : undK os (i + 1) = (undK os i).set (os.getD i 0).toNat (i : Int) := rfl
def und (os : List Int) : List Int := undK os os.length
theorem undK_len (os : List Int) : ∀ i, (undK os i).length = os.length
  | 0 => List.length_replicate ..
  | i + 1 => by unfold undK; rw [List.length_set, undK_len os i]
theorem ixN_in {n : Nat} {k : Int} (h0 : 0 ≤ k) (h1 : k < n) : ixN n k = some k.toNat := by
  unfold ixN
  rw [if_pos h0, if_pos h1]
theorem repL_eq {xs : List D} {k : Int} : repL (.lst xs) (.int k) = if -(2 ^ 63) ≤ k ∧ k < 2 ^ 63 ∧ xs.length * k.toNat ≤ sizeLine then some (List.replicate k.toNat xs).flatten else none := by unfold repL; exact Eq.refl _
theorem repL_zero (n : Nat) (h : n ≤ 1000) : repL (.lst [.int 0]) (.int (n : Int)) = some (I (List.replicate n 0)) := by
  rw [repL_eq, if_pos ⟨by omega, by omega, by rw [sizeLine_eq, Int.toNat_natCast, List.length_singleton]; omega⟩, Int.toNat_natCast]
  refine congrArg some ?_
  unfold I
  rw [List.map_replicate]
  induction n with
  | zero => rfl
  | succ n ih => rw [List.replicate_succ, List.flatten_cons, ih (by omega), List.replicate_succ]; rfl
theorem und_loop {os : List Int} {b : Bool} {s : S} {Q : Fl → Sta → Prop} (ho : ∀ k ∈ os, 0 ≤ k ∧ k < os.length) (q : ∀ x y, Q .nx ⟨s, [.dat (.tup b (I os)), .own (I (und os)), x, y]⟩) :
    Wp (forM (itM enumD (consM (varM 0) (pureM []))) (tgT [tgN 2, tgN 3]) (seqM (asgM (varM 2) (ownSetM 1 (varM 3))) (pureM .nx))) ⟨s, [.dat (.tup b (I os)), .own (I (List.replicate os.length 0)), .un, .un]⟩ Q := by
  refine wp_for (ds := []) ?_
  simp (config := { maxSteps := 100000000 }) only [wp_seq, wp_ret, wp_asg, wp_drop, wp_ifS, wp_ifM, wp_op2, wp_test, wp_callD, wp_cons, wp_pure, wp_call, wp_tOr, wp_tAnd, wp_tNot, wp_and, wp_not, wp_tgN, wp_varI, wp_seqI, wp_itM, wp_ofL, wp_callL, wp_fit, wp_tup, wp_own, wp_chain, chainP, varP, ex_some, ex_some2, asB_bl, asSeq, addD_ii, subD_ii, ltD_ii, leD_ii, gtD_ii, geD_ii, eqD_ii, neD_ii, lenD_l, lenD_t, isi_ii, isi_ib, isi_tt, List.getElem?_cons_zero, List.getElem?_cons_succ, List.set_cons_zero, List.set_cons_succ, List.map_cons, List.map_nil, List.cons_append, List.nil_append, List.replicate, List.length_cons, List.length_nil, if_true, if_false, ite_true, ite_false, Bool.false_eq_true, Bool.not_true, Bool.not_false, true_and, and_true, Nat.reduceAdd, Nat.reduceSub, and_self]
  refine ⟨enumL (I os), rfl, ?_⟩
  refine wp_loop (fun i s1 => ∃ x y, s1 = ⟨s, [.dat (.tup b (I os)), .own (I (undK os i)), x, y]⟩) ⟨.un, .un, rfl⟩ (fun i d s1 hd hs => ?_) (fun s1 hs => ?_)
  · obtain ⟨x, y, rfl⟩ := hs
    obtain ⟨e, he, rfl⟩ := enumL_get hd
    obtain ⟨k, hk, rfl⟩ := I_get he
    have hm := ho k (List.mem_of_getElem? hk)
    show Wp (bindM (tgN 2 (.int i)) fun _ => bindM (tgN 3 (.int k)) fun _ => pureM ()) _ _
    simp (config := { maxSteps := 100000000 }) only [wp_seq, wp_ret, wp_asg, wp_drop, wp_ifS, wp_ifM, wp_op2, wp_test, wp_callD, wp_cons, wp_pure, wp_call, wp_tOr, wp_tAnd, wp_tNot, wp_and, wp_not, wp_tgN, wp_varI, wp_seqI, wp_itM, wp_ofL, wp_callL, wp_fit, wp_tup, wp_own, wp_chain, chainP, varP, ex_some, ex_some2, asB_bl, asSeq, addD_ii, subD_ii, ltD_ii, leD_ii, gtD_ii, geD_ii, eqD_ii, neD_ii, lenD_l, lenD_t, isi_ii, isi_ib, isi_tt, List.getElem?_cons_zero, List.getElem?_cons_succ, List.set_cons_zero, List.set_cons_succ, List.map_cons, List.map_nil, List.cons_append, List.nil_append, List.replicate, List.length_cons, List.length_nil, if_true, if_false, ite_true, ite_false, Bool.false_eq_true, Bool.not_true, Bool.not_false, true_and, and_true, Nat.reduceAdd, Nat.reduceSub, and_self, wp_bind]
    refine ⟨(), ⟨s, [.dat (.tup b (I os)), .own (I (undK os (i + 1))), .dat (.int i), .dat (.int k)]⟩, ?_, _, _, rfl⟩
    unfold ownSetM
    show (match ownOf ⟨s, [.dat (.tup b (I os)), .own (I (undK os i)), .dat (.int i), .dat (.int k)]⟩ 1 with | none => none | some _ => _) = _
    show (match (some k : Option Int).bind (ixN (I (undK os i)).length) with | none => none | some j => some ((), _)) = _
    rw [Option.bind_some, ixN_in hm.1 (by rw [lenI, undK_len]; exact hm.2)]
    simp only
    congr 3
    show [_, Slot.own ((I (undK os i)).set k.toNat (.int i)), _, _] = _
    have : os.getD i 0 = k := by rw [List.getD_eq_getElem?_getD, hk]; rfl
    rw [undK_succ, this]
    unfold I
    rw [← List.map_set]
  · obtain ⟨x, y, rfl⟩ := hs
    rw [enumL_len, lenI]
    exact q x y
theorem undone_ok {os : List Int} {b : Bool} {s : S} (h : OrdP os) (hl : os.length ≤ 60) : r_undone_order [.tup b (I os)] s = some (.tup true (I (und os)), s) := by
  refine run_is rfl ?_
  unfold b_undone_order repLM
  simp (config := { maxSteps := 100000000 }) only [wp_seq, wp_ret, wp_asg, wp_drop, wp_ifS, wp_ifM, wp_op2, wp_test, wp_callD, wp_cons, wp_pure, wp_call, wp_tOr, wp_tAnd, wp_tNot, wp_and, wp_not, wp_tgN, wp_varI, wp_seqI, wp_itM, wp_ofL, wp_callL, wp_fit, wp_tup, wp_own, wp_chain, chainP, varP, ex_some, ex_some2, asB_bl, asSeq, addD_ii, subD_ii, ltD_ii, leD_ii, gtD_ii, geD_ii, eqD_ii, neD_ii, lenD_l, lenD_t, isi_ii, isi_ib, isi_tt, List.getElem?_cons_zero, List.getElem?_cons_succ, List.set_cons_zero, List.set_cons_succ, List.map_cons, List.map_nil, List.cons_append, List.nil_append, List.replicate, List.length_cons, List.length_nil, if_true, if_false, ite_true, ite_false, Bool.false_eq_true, Bool.not_true, Bool.not_false, true_and, and_true, Nat.reduceAdd, Nat.reduceSub, and_self, need_some_order_ok h hl, lenI, wp_bind, wp_lift, repL_zero _ (show os.length ≤ 1000 by omega), show (1 ≤ sizeLine) = True from by rw [sizeLine_eq]; simp]
  refine (und_loop h.range fun x y => ?_)
  simp (config := { maxSteps := 100000000 }) only [wp_seq, wp_ret, wp_asg, wp_drop, wp_ifS, wp_ifM, wp_op2, wp_test, wp_callD, wp_cons, wp_pure, wp_call, wp_tOr, wp_tAnd, wp_tNot, wp_and, wp_not, wp_tgN, wp_varI, wp_seqI, wp_itM, wp_ofL, wp_callL, wp_fit, wp_tup, wp_own, wp_chain, chainP, varP, ex_some, ex_some2, asB_bl, asSeq, addD_ii, subD_ii, ltD_ii, leD_ii, gtD_ii, geD_ii, eqD_ii, neD_ii, lenD_l, lenD_t, isi_ii, isi_ib, isi_tt, List.getElem?_cons_zero, List.getElem?_cons_succ, List.set_cons_zero, List.set_cons_succ, List.map_cons, List.map_nil, List.cons_append, List.nil_append, List.replicate, List.length_cons, List.length_nil, if_true, if_false, ite_true, ite_false, Bool.false_eq_true, Bool.not_true, Bool.not_false, true_and, and_true, Nat.reduceAdd, Nat.reduceSub, and_self]
  exact ⟨_, rfl, rfl⟩
theorem piled_le {m : Nat} : ∀ {ts : List Str}, (∀ t ∈ ts, t.length ≤ m) → piled ts ≤ ts.length * (m + 2)
  | [], _ => by simp [piled]
  | t :: ts, h => by
    have h1 := h t List.mem_cons_self
    have h2 := piled_le (ts := ts) fun x hx => h x (List.mem_cons_of_mem _ hx)
    rw [List.length_cons, Nat.succ_mul]
    show t.length + 2 + piled ts ≤ _
    omega
theorem tupleText_le {m : Nat} {ts : List Str} (h : ∀ t ∈ ts, t.length ≤ m) : (tupleText ts).length ≤ ts.length * (m + 2) + 3 := by
  have h1 := piled_le h
  have h2 : (Str.join ", " ts).length ≤ piled ts := by
    cases ts with
    | nil => show 0 ≤ _; omega
    | cons x r => have := join_length_add (x :: r) (by simp); omega
  unfold tupleText
  rw [strLen_append, strLen_append]
  have h3 : (("(" : Str)).length = 1 := rfl
  have h4 : ((if ts.length == 1 then ",)" else ")" : String) : Str).length ≤ 2 := by split <;> decide
  omega
/-- data that repr shows, in at most m signs -/
structure Shows (d : PyData) (dep m : Nat) : Prop where
  sh : d.showable = true
  nd : d.hasDict = false
  dp : d.depth ≤ dep
  ln : d.shown.length ≤ m
theorem int_len : ∀ n : Nat, n < 1001 → ((PyData.shown (.int (n : Int)))).length ≤ 4 := by decide +kernel
theorem shows_int {k : Int} (h0 : 0 ≤ k) (h1 : k ≤ 1000) : Shows (.int k) 0 4 := by
  obtain ⟨n, rfl⟩ : ∃ n : Nat, k = n := ⟨k.toNat, by omega⟩
  refine ⟨?_, rfl, Nat.le_refl _, int_len n (by omega)⟩
  show decide ((n : Int).natAbs.log2 < 1920) = true
  have := log_lt (i := (n : Int)) (n := 20) (by omega) (by omega) (by decide)
  exact decide_eq_true (by omega)
theorem shows_tup {ds : List PyData} {dep m : Nat} (h : ∀ d ∈ ds, Shows d dep m) : Shows (.tuple ds) (dep + 1) (ds.length * (m + 2) + 3) := by
  have all : ∀ ds : List PyData, (∀ d ∈ ds, Shows d dep m) → PyData.showableAll ds = true ∧ PyData.hasDictAll ds = false ∧ PyData.depthAll ds ≤ dep ∧ (PyData.shownAll ds).length = ds.length ∧ ∀ t ∈ PyData.shownAll ds, t.length ≤ m := by
    intro ds
    induction ds with
    | nil => exact fun _ => ⟨rfl, rfl, Nat.zero_le _, rfl, fun t ht => by cases ht⟩
    | cons d ds ih =>
      intro h
      obtain ⟨h1, h2, h3, h4, h5⟩ := ih fun x hx => h x (List.mem_cons_of_mem _ hx)
      have hd := h d List.mem_cons_self
      refine ⟨?_, ?_, ?_, ?_, ?_⟩
      · show (PyData.showable d && PyData.showableAll ds) = true
        rw [hd.sh, h1]; rfl
      · show (PyData.hasDict d || PyData.hasDictAll ds) = false
        rw [hd.nd, h2]; rfl
      · show max (PyData.depth d) (PyData.depthAll ds) ≤ dep
        exact Nat.max_le.mpr ⟨hd.dp, h3⟩
      · show (PyData.shownAll ds).length + 1 = ds.length + 1
        rw [h4]
      · intro t ht
        rcases List.mem_cons.mp (show t ∈ PyData.shown d :: PyData.shownAll ds from ht) with e | e
        · rw [e]; exact hd.ln
        · exact h5 t e
  obtain ⟨h1, h2, h3, h4, h5⟩ := all ds h
  refine ⟨h1, h2, ?_, ?_⟩
  · show PyData.depthAll ds + 1 ≤ dep + 1
    omega
  · show (tupleText (PyData.shownAll ds)).length ≤ _
    have := tupleText_le h5
    rw [h4] at this
    exact this
theorem repr_ok {d : D} {p : PyData} {dep m : Nat} (hr : isRef d = true) (hp : toPy d = some p) (h : Shows p dep m) (hd : dep ≤ 60) (hm : m ≤ 1000000) : reprD [d] = some (.str p.shown) := by
  unfold reprD
  simp only
  rw [if_pos hr, hp, Option.bind_some, if_pos ⟨h.sh, h.nd, Nat.le_trans h.dp hd, by have := h.ln; rw [sizeLine_eq]; omega⟩]
/-- small ints in a row -/
def Sm (ns : List Int) : Prop := ns.length ≤ 60 ∧ ∀ k ∈ ns, 0 ≤ k ∧ k ≤ 1000
theorem shows_I {ns : List Int} (h : Sm ns) : Shows (.tuple (ns.map .int)) 1 400 := by
  have := shows_tup (ds := ns.map PyData.int) (dep := 0) (m := 4) fun d hd => by
    obtain ⟨k, hk, rfl⟩ := List.mem_map.mp hd
    exact shows_int (h.2 k hk).1 (h.2 k hk).2
  refine ⟨this.sh, this.nd, this.dp, Nat.le_trans this.ln ?_⟩
  rw [List.length_map]
  have := h.1
  omega
theorem toPy_I {b : Bool} {ns : List Int} : toPy (.tup b (I ns)) = some (.tuple (ns.map .int)) := by
  unfold toPy
  rw [toPys_I]; rfl
/-- rows of small ints -/
def Rows (rs : List (Bool × List Int)) : List D := rs.map fun r => .tup r.1 (I r.2)
theorem toPys_rows : ∀ (rs : List (Bool × List Int)), toPys (Rows rs) = some (rs.map fun r => .tuple (r.2.map .int))
  | [] => rfl
  | r :: rs => by
    show (toPy (.tup r.1 (I r.2))).bind (fun a => (toPys (Rows rs)).map (a :: ·)) = _
    rw [toPy_I, toPys_rows rs]; rfl
theorem repr_rows {b : Bool} {rs : List (Bool × List Int)} (hl : rs.length ≤ 10) (h : ∀ r ∈ rs, Sm r.2) : reprD [.tup b (Rows rs)] = some (.str (PyData.tuple (rs.map fun r => .tuple (r.2.map .int))).shown) := by
  refine repr_ok rfl (by unfold toPy; rw [toPys_rows]; rfl) (shows_tup (dep := 1) (m := 400) fun d hd => ?_) (by omega) ?_
  · obtain ⟨r, hr, rfl⟩ := List.mem_map.mp hd
    exact shows_I (h r hr)
  · rw [List.length_map]; omega
theorem repr_row {b : Bool} {ns : List Int} (h : Sm ns) : reprD [.tup b (I ns)] = some (.str (PyData.tuple (ns.map .int)).shown) := repr_ok rfl toPy_I (shows_I h) (by omega) (by omega)
theorem neD_txt {x : Str} : neD (.str x) (.str x) = some (.bl false) := by
  show some (D.bl (!decide (x = x))) = _
  simp
theorem eqD_txt {x : Str} : eqD (.str x) (.str x) = some (.bl true) := by
  show some (D.bl (decide (x = x))) = _
  simp
theorem perm_of_sub {l : List Int} : ∀ {r : List Int}, l.Nodup → (∀ x ∈ l, x ∈ r) → r.length ≤ l.length → l.Perm r := by
  induction l with
  | nil =>
    intro r _ _ h
    have : r = [] := List.eq_nil_of_length_eq_zero (by simpa using h)
    rw [this]
  | cons a l ih =>
    intro r nd sub h
    have ha := sub a List.mem_cons_self
    have nd' := List.nodup_cons.mp nd
    have hp := List.perm_cons_erase ha
    refine (List.Perm.cons a (ih (r := r.erase a) nd'.2 (fun x hx => ?_) ?_)).trans hp.symm
    · have hne : x ≠ a := fun z => nd'.1 (z ▸ hx)
      exact (List.mem_erase_of_ne hne).mpr (sub x (List.mem_cons_of_mem _ hx))
    · rw [List.length_erase_of_mem ha]
      rw [List.length_cons] at h
      omega
def row (n : Nat) : List Int := (List.range n).map fun k : Nat => (k : Int)
theorem row_len (n : Nat) : (row n).length = n := by simp [row]
theorem row_get {n j : Nat} (h : j < n) : (row n)[j]? = some (j : Int) := by simp [row, h]
theorem row_nodup (n : Nat) : (row n).Nodup := by
  unfold row
  refine List.pairwise_map.mpr (List.pairwise_lt_range.imp fun h => ?_)
  omega
theorem mem_row {n : Nat} {k : Int} : k ∈ row n ↔ 0 ≤ k ∧ k < n := by
  unfold row
  constructor
  · intro h
    obtain ⟨j, hj, rfl⟩ := List.mem_map.mp h
    have := List.mem_range.mp hj
    omega
  · intro h
    exact List.mem_map.mpr ⟨k.toNat, List.mem_range.mpr (by omega), by omega⟩
theorem OrdP.of_nodup {ns : List Int} (nd : ns.Nodup) (h : ∀ k ∈ ns, 0 ≤ k ∧ k < ns.length) : OrdP ns := perm_of_sub nd (fun x hx => mem_row.mpr (h x hx)) (by show (row ns.length).length ≤ _; rw [row_len]; exact Nat.le_refl _)
theorem OrdP.nodup {ns : List Int} (h : OrdP ns) : ns.Nodup := (List.Perm.nodup_iff h).mpr (row_nodup _)
theorem OrdP.mem {ns : List Int} (h : OrdP ns) {k : Int} (h0 : 0 ≤ k) (h1 : k < ns.length) : k ∈ ns := h.mem_iff.mpr (mem_row.mpr ⟨h0, h1⟩)
theorem ord_row (n : Nat) : OrdP (row n) := by
  refine OrdP.of_nodup (row_nodup n) fun k hk => ?_
  rw [row_len]
  exact mem_row.mp hk
theorem ord_rev {ns : List Int} (h : OrdP ns) : OrdP ns.reverse := by
  show ns.reverse.Perm _
  rw [List.length_reverse]
  exact (List.reverse_perm ns).trans h
theorem app_len {ds os : List Int} : (app ds os).length = os.length := List.length_map ..
theorem app_get {ds os : List Int} {j : Nat} (h : j < os.length) : (app ds os).getD j 0 = ds.getD (os.getD j 0).toNat 0 := by
  unfold app
  rw [List.getD_eq_getElem?_getD, List.getElem?_map, List.getElem?_eq_getElem h, List.getD_eq_getElem?_getD (l := os), List.getElem?_eq_getElem h]
  rfl
theorem app_app {ds as bs : List Int} (hb : ∀ k ∈ bs, 0 ≤ k ∧ k < as.length) : app (app ds as) bs = app ds (app as bs) := by
  unfold app
  rw [List.map_map]
  refine List.map_congr_left fun k hk => ?_
  have := hb k hk
  exact app_get (ds := ds) (os := as) (by omega)
theorem ext_getD {l r : List Int} (hl : l.length = r.length) (h : ∀ j, j < l.length → l.getD j 0 = r.getD j 0) : l = r := by
  apply List.ext_getElem hl
  intro j h1 h2
  have := h j h1
  rwa [List.getD_eq_getElem?_getD, List.getElem?_eq_getElem h1, List.getD_eq_getElem?_getD, List.getElem?_eq_getElem h2] at this
theorem row_getD {n j : Nat} (h : j < n) : (row n).getD j 0 = (j : Int) := by
  rw [List.getD_eq_getElem?_getD, row_get h]; rfl
theorem app_row {ds : List Int} : app ds (row ds.length) = ds := by
  refine ext_getD (by rw [app_len, row_len]) fun j hj => ?_
  rw [app_len, row_len] at hj
  rw [app_get (by rw [row_len]; exact hj), row_getD hj]
  rfl
theorem row_app {os : List Int} {n : Nat} (h : ∀ k ∈ os, 0 ≤ k ∧ k < n) : app (row n) os = os := by
  refine ext_getD app_len fun j hj => ?_
  rw [app_len] at hj
  rw [app_get hj]
  have hm : os.getD j 0 ∈ os := by rw [List.getD_eq_getElem?_getD, List.getElem?_eq_getElem hj]; exact List.getElem_mem hj
  have := h _ hm
  rw [row_getD (by omega)]
  omega
theorem getD_mem {os : List Int} {j : Nat} (h : j < os.length) : os.getD j 0 ∈ os := by rw [List.getD_eq_getElem?_getD, List.getElem?_eq_getElem h]; exact List.getElem_mem h
theorem OrdP.inj {os : List Int} (h : OrdP os) {i j : Nat} (hi : i < os.length) (hj : j < os.length) (e : os.getD i 0 = os.getD j 0) : i = j := by
  have e1 : os[i] = os[j] := by
    rwa [List.getD_eq_getElem?_getD, List.getElem?_eq_getElem hi, List.getD_eq_getElem?_getD, List.getElem?_eq_getElem hj] at e
  have nd := List.pairwise_iff_getElem.mp h.nodup
  rcases Nat.lt_trichotomy i j with c | c | c
  · exact absurd e1 (nd i j hi hj c)
  · exact c
  · exact absurd e1.symm (nd j i hj hi c)
theorem undK_at {os : List Int} (h : OrdP os) : ∀ i, i ≤ os.length → ∀ j, j < i → (undK os i).getD (os.getD j 0).toNat 0 = (j : Int)
  | 0, _, j, hj => absurd hj (Nat.not_lt_zero _)
  | i + 1, hi, j, hj => by
    rw [undK_succ]
    have r1 := h.range _ (getD_mem (show i < os.length by omega))
    have r2 := h.range _ (getD_mem (show j < os.length by omega))
    by_cases e : j = i
    · subst e
      rw [List.getD_eq_getElem?_getD, List.getElem?_set_self (by rw [undK_len]; omega)]
      rfl
    · have ne : (os.getD i 0).toNat ≠ (os.getD j 0).toNat := fun z => e (h.inj (by omega) (by omega) (by omega))
      rw [List.getD_eq_getElem?_getD, List.getElem?_set_ne ne, ← List.getD_eq_getElem?_getD]
      exact undK_at h i (by omega) j (by omega)
theorem und_at {os : List Int} (h : OrdP os) {j : Nat} (hj : j < os.length) : (und os).getD (os.getD j 0).toNat 0 = (j : Int) := undK_at h _ (Nat.le_refl _) j hj
theorem und_len (os : List Int) : (und os).length = os.length := undK_len os _
theorem und_app {os : List Int} (h : OrdP os) : app (und os) os = row os.length := by
  refine ext_getD (by rw [app_len, row_len]) fun j hj => ?_
  rw [app_len] at hj
  rw [app_get hj, und_at h hj, row_getD hj]
theorem find_place {os : List Int} (h : OrdP os) {v : Nat} (hv : v < os.length) : ∃ j, j < os.length ∧ os.getD j 0 = (v : Int) := by
  obtain ⟨j, hj, e⟩ := List.mem_iff_getElem.mp (h.mem (k := (v : Int)) (by omega) (by omega))
  exact ⟨j, hj, by rw [List.getD_eq_getElem?_getD, List.getElem?_eq_getElem hj]; exact e⟩
theorem und_is {os : List Int} (h : OrdP os) {v : Nat} (hv : v < os.length) : ∃ j, j < os.length ∧ os.getD j 0 = (v : Int) ∧ (und os).getD v 0 = (j : Int) := by
  obtain ⟨j, hj, e⟩ := find_place h hv
  refine ⟨j, hj, e, ?_⟩
  have := und_at h hj
  rw [e, Int.toNat_natCast] at this
  exact this
theorem app_und {os : List Int} (h : OrdP os) : app os (und os) = row os.length := by
  refine ext_getD (by rw [app_len, und_len, row_len]) fun j hj => ?_
  rw [app_len, und_len] at hj
  obtain ⟨i, hi, e1, e2⟩ := und_is h hj
  rw [app_get (by rw [und_len]; exact hj), e2, Int.toNat_natCast, e1, row_getD hj]
theorem und_ord {os : List Int} (h : OrdP os) : OrdP (und os) := by
  refine OrdP.of_nodup ?_ fun k hk => ?_
  · have := row_nodup os.length
    rw [← app_und h] at this
    unfold app at this
    exact (List.pairwise_map.mp this).imp fun h e => h (by rw [e])
  · obtain ⟨v, hv, e⟩ := List.mem_iff_getElem.mp hk
    rw [und_len] at hv ⊢
    obtain ⟨j, hj, _, e2⟩ := und_is h hv
    rw [List.getD_eq_getElem?_getD, List.getElem?_eq_getElem (by rw [und_len]; exact hv)] at e2
    have : k = (j : Int) := by rw [← e]; exact e2
    omega
theorem app_ord {as bs : List Int} (ha : OrdP as) (hb : OrdP bs) (hl : bs.length = as.length) : OrdP (app as bs) := by
  refine OrdP.of_nodup ?_ fun k hk => ?_
  · unfold app
    refine List.pairwise_map.mpr (List.Pairwise.imp_of_mem (fun {x y} hx hy hxy e => ?_) hb.nodup)
    have rx := hb.range x hx
    have ry := hb.range y hy
    have := ha.inj (by omega) (by omega) e
    omega
  · rw [app_len]
    obtain ⟨x, hx, rfl⟩ := List.mem_map.mp hk
    have rx := hb.range x hx
    have := ha.range _ (getD_mem (show x.toNat < as.length by omega))
    omega
theorem app_mem {ds os : List Int} {P : Int → Prop} (hd : ∀ k ∈ ds, P k) (ho : ∀ k ∈ os, 0 ≤ k ∧ k < ds.length) : ∀ k ∈ app ds os, P k := fun k hk => by
  obtain ⟨x, hx, rfl⟩ := List.mem_map.mp hk
  have := ho x hx
  exact hd _ (getD_mem (by omega))
theorem und_und {os : List Int} (h : OrdP os) : und (und os) = os := by
  have e : app (app os (und os)) (und (und os)) = app os (app (und os) (und (und os))) := app_app fun k hk => by
    have := (und_ord (und_ord h)).range k hk
    rwa [und_len] at this
  rw [app_und h, app_und (und_ord h), und_len, app_row, row_app fun k hk => by have := (und_ord (und_ord h)).range k hk; rwa [und_len, und_len] at this] at e
  exact e
end GA.P
namespace GA
open PySem PySem.Spec PyProof.Rows L2 GenW
section
variable {it : M (List D)} {te : M D} {v : Nat} {s : S} {r r' : List Slot} {ds : List D} {f : D → D} {Q : List D → Sta → Prop} {st : Sta} {m : M (List D)} {ma : M D} {mx : M (List Slot)} {QX : List Slot → Sta → Prop} {QF : Fl → Sta → Prop} {QD : D → Sta → Prop} {is : List Nat}
theorem comp_map2 (hv : r[v]? = some .un) (hv' : r'[v]? = some .un) (hit : Wp it ⟨s, r⟩ fun l s1 => l = ds ∧ s1 = ⟨s, r⟩) (hl : ds.length ≤ sizeLine)
    (hte : ∀ d ∈ ds, ∀ ρ, ρ = r ∨ ρ = r' → Wp te ⟨s, ρ.set v (.dat d)⟩ fun y s3 => y = f d ∧ s3 = ⟨s, r'.set v (.dat d)⟩) (q : ∀ ρ, ρ = r ∨ ρ = r' → Q (ds.map f) ⟨s, ρ⟩) : Wp (compM it (tgN v) (pureM true) te [v]) ⟨s, r⟩ Q := by
  refine wp_comp (hit.mono fun l s1 ⟨e1, e2⟩ => ?_)
  subst e1 e2
  have un : ∀ ρ, ρ = r ∨ ρ = r' → ρ.set v .un = ρ := fun ρ h => by rcases h with rfl | rfl <;> exact back_un (by assumption)
  show Wp _ ⟨s, r.set v .un⟩ _
  rw [un r (.inl rfl)]
  refine wp_catL (fun i acc s1 => (∃ ρ, (ρ = r ∨ ρ = r') ∧ s1 = ⟨s, ρ⟩) ∧ acc = (l.take i).map f) ⟨⟨r, .inl rfl, rfl⟩, rfl⟩ (fun i d acc s1 hd ⟨⟨ρ, hρ, e1⟩, e2⟩ => ?_) (fun out s1 ⟨⟨ρ, hρ, e1⟩, e2⟩ => ?_)
  · subst e1 e2
    refine wp_one.mpr (wp_tgN.mpr (wp_pure.mpr ?_))
    rw [if_pos rfl]
    refine (hte d (List.mem_of_getElem? hd) ρ hρ).mono fun y s4 ⟨e5, e6⟩ => ?_
    subst e5 e6
    refine ⟨⟨r', .inr rfl, ?_⟩, ?_⟩
    · show Sta.mk s ((r'.set v (.dat d)).set v .un) = _
      rw [List.set_set, un r' (.inr rfl)]
    · rw [List.take_add_one, hd, List.map_append]; rfl
  · subst e1
    rw [List.take_length] at e2
    subst e2
    refine ⟨by rw [List.length_map]; exact hl, ?_⟩
    show Q _ ⟨s, ρ.set v (slotKeep r[v]?)⟩
    rw [hv]
    show Q _ ⟨s, ρ.set v .un⟩
    rw [un ρ hρ]
    exact q ρ hρ
theorem wp_par : Wp (parM is mx) st QF ↔ Wp mx st fun ss s1 => ss.length = is.length ∧ QF .nx { s1 with r := layR is ss s1.r } := by
  unfold parM
  rw [wp_bind]
  constructor
  · exact fun h => h.mono fun ss s1 ⟨a, s2, e, q⟩ => by
      split at e
      · cases e; exact ⟨by assumption, q⟩
      · cases e
  · exact fun h => h.mono fun ss s1 ⟨e, q⟩ => ⟨.nx, _, by show (if ss.length = is.length then _ else none) = _; rw [if_pos e], q⟩
theorem wp_xDat : Wp (xDat ma mx) st QX ↔ Wp ma st fun d s1 => Wp mx s1 fun ss s2 => QX (.dat d :: ss) s2 := by
  unfold xDat
  rw [wp_bind]
  exact ⟨fun h => h.mono fun x s1 h => (wp_bind.mp h).mono fun y s2 h => wp_pure.mp h, fun h => h.mono fun x s1 h => wp_bind.mpr (h.mono fun y s2 h => wp_pure.mpr h)⟩
theorem wp_pick : Wp (pickM is m) st Q ↔ Wp m st fun ds s1 => Q (pickL is ds) s1 := by
  unfold pickM
  rw [wp_bind]
  exact ⟨fun h => h.mono fun x s1 h => wp_pure.mp h, fun h => h.mono fun x s1 h => wp_pure.mpr h⟩
theorem wp_tupRg : Wp (tupRgM ma) st QD ↔ Wp ma st fun d s1 => ∃ x, (rgD d).map (D.tup false) = some x ∧ QD x s1 := by
  unfold tupRgM
  rw [wp_bind]
  exact ⟨fun h => h.mono fun x s1 h => wp_lift.mp h, fun h => h.mono fun x s1 h => wp_lift.mpr h⟩
theorem wp_turn : Wp (turnDM ma) st QD ↔ Wp ma st fun d s1 => ∃ x, turnD d = some x ∧ QD x s1 := by
  unfold turnDM
  rw [wp_bind]
  exact ⟨fun h => h.mono fun x s1 h => wp_lift.mp h, fun h => h.mono fun x s1 h => wp_lift.mpr h⟩
theorem pick10 {α : Type} {a b : α} : pickL [1, 0] [a, b] = [b, a] := rfl
theorem pick_0 {α : Type} {a : α} : pickL [0] [a] = [a] := rfl
theorem isD_tt : isD (.bl true) (.bl true) = some (.bl true) := rfl
end
end GA
namespace GA.P
open PySem PySem.Spec PyProof.Rows L2 GenW HT
theorem repr2 {f a b : Bool} {x y : List Int} (hx : Sm x) (hy : Sm y) : reprD [.tup f [.tup a (I x), .tup b (I y)]] = some (.str (PyData.tuple [.tuple (x.map .int), .tuple (y.map .int)]).shown) :=
  repr_rows (rs := [(a, x), (b, y)]) (by simp) (by simp [hx, hy])
theorem repr3 {f a b c : Bool} {x y z : List Int} (hx : Sm x) (hy : Sm y) (hz : Sm z) : reprD [.tup f [.tup a (I x), .tup b (I y), .tup c (I z)]] = some (.str (PyData.tuple [.tuple (x.map .int), .tuple (y.map .int), .tuple (z.map .int)]).shown) :=
  repr_rows (rs := [(a, x), (b, y), (c, z)]) (by simp) (by simp [hx, hy, hz])
theorem repr4 {f a b c d : Bool} {x y z u : List Int} (hx : Sm x) (hy : Sm y) (hz : Sm z) (hu : Sm u) : reprD [.tup f [.tup a (I x), .tup b (I y), .tup c (I z), .tup d (I u)]] = some (.str (PyData.tuple [.tuple (x.map .int), .tuple (y.map .int), .tuple (z.map .int), .tuple (u.map .int)]).shown) :=
  repr_rows (rs := [(a, x), (b, y), (c, z), (d, u)]) (by simp) (by simp [hx, hy, hz, hu])
theorem OrdP.sm {os : List Int} (h : OrdP os) (hl : os.length ≤ 60) : Sm os := ⟨hl, fun k hk => by have := h.range k hk; omega⟩
theorem inv_unique {x y : List Int} (h : OrdP x) (hl : y.length = x.length) (hy : ∀ k ∈ y, 0 ≤ k ∧ k < x.length) (e : app x y = row x.length) : y = und x := by
  have e1 : app (app (und x) x) y = app (und x) (app x y) := app_app hy
  rw [und_app h, e, row_app hy, ← und_len x, app_row] at e1
  exact e1
theorem wp_step {x y : M Fl} {st st' : Sta} {Q : Fl → Sta → Prop} (h : Wp x st fun fl s1 => fl = .nx ∧ s1 = st') (k : Wp y st' Q) : Wp (seqM x y) st Q :=
  wp_seq.mpr (h.mono fun fl s1 ⟨e1, e2⟩ => by subst e1 e2; exact k)
theorem turn_I {b : Bool} {ns : List Int} : turnD (.tup b (I ns)) = some (.tup false (I ns.reverse)) := by
  show some (D.tup false (I ns).reverse) = _
  unfold I
  rw [List.map_reverse]
theorem rg_row {n : Nat} (h : n ≤ 1000) : (rgD (.int (n : Int))).map (D.tup false) = some (.tup false (I (row n))) := by
  rw [rgD_int h, rng_eq]; rfl
def py (ns : List Int) : PyData := .tuple (ns.map .int)
theorem toPys_cons {d : D} {ds : List D} {p : PyData} {ps : List PyData} (h : toPy d = some p) (h2 : toPys ds = some ps) : toPys (d :: ds) = some (p :: ps) := by
  unfold toPys; rw [h, h2]; rfl
theorem toPy_tup {b : Bool} {ds : List D} {ps : List PyData} (h : toPys ds = some ps) : toPy (.tup b ds) = some (.tuple ps) := by
  unfold toPy; rw [h]; rfl
theorem toPy_I' {b : Bool} {ns ms : List Int} (h : ns = ms) : toPy (.tup b (I ns)) = some (py ms) := h ▸ toPy_I
theorem toPys_nil : toPys [] = some [] := rfl
/-- a tuple that repr shows -/
theorem shows_py {ps : List PyData} (hl : ps.length ≤ 70) (h : ∀ p ∈ ps, Shows p 4 10000) : (PyData.tuple ps).showable = true ∧ (PyData.tuple ps).hasDict = false ∧ (PyData.tuple ps).depth ≤ 60 ∧ (PyData.tuple ps).shown.length ≤ sizeLine := by
  have := shows_tup h
  refine ⟨this.sh, this.nd, Nat.le_trans this.dp (by omega), Nat.le_trans this.ln ?_⟩
  rw [sizeLine_eq]
  omega
theorem sm_py {ns : List Int} (h : Sm ns) : Shows (py ns) 4 10000 := by
  have := shows_I h
  exact ⟨this.sh, this.nd, Nat.le_trans this.dp (by omega), Nat.le_trans this.ln (by omega)⟩
theorem sm_show {ns : List Int} (h : Sm ns) : (py ns).showable = true ∧ (py ns).hasDict = false ∧ (py ns).depth ≤ 60 ∧ (py ns).shown.length ≤ sizeLine := by
  have := shows_I h
  refine ⟨this.sh, this.nd, Nat.le_trans this.dp (by omega), Nat.le_trans this.ln ?_⟩
  rw [sizeLine_eq]; omega
theorem eqD_py {a b : D} {p q : PyData} (hp : toPy a = some p) (hq : toPy b = some q) (sp : SeqAt.shaped p = true) (sq : SeqAt.shaped q = true) (n : twoStr a b = none) : eqD a b = some (.bl (PyData.eqv p q)) := by
  unfold eqD eqPy
  rw [n]
  simp only
  rw [hp, hq]
  simp only [Option.bind_some]
  rw [if_pos ⟨sp, sq⟩]
theorem neD_py {a b : D} {p q : PyData} (hp : toPy a = some p) (hq : toPy b = some q) (sp : SeqAt.shaped p = true) (sq : SeqAt.shaped q = true) (n : twoStr a b = none) : neD a b = some (.bl (!PyData.eqv p q)) := by
  unfold neD nePy
  rw [n]
  simp only
  rw [hp, hq]
  simp only [Option.bind_some]
  rw [if_pos ⟨sp, sq⟩]
/-- data that == takes -/
structure Lay (d : PyData) (dep : Nat) : Prop where
  c : d.canLay0 = true
  dp : d.depth ≤ dep
theorem Lay.shaped {d : PyData} {dep : Nat} (h : Lay d dep) (hd : dep ≤ 64) : SeqAt.shaped d = true := by
  unfold SeqAt.shaped
  rw [h.c, Bool.true_and]
  exact decide_eq_true (Nat.le_trans h.dp hd)
theorem lay_int {i : Int} : Lay (.int i) 0 := ⟨rfl, Nat.le_refl _⟩
theorem lay_tup {ds : List PyData} {dep : Nat} (h : ∀ d ∈ ds, Lay d dep) : Lay (.tuple ds) (dep + 1) := by
  have all : ∀ ds : List PyData, (∀ d ∈ ds, Lay d dep) → PyData.canLayAll0 ds = true ∧ PyData.depthAll ds ≤ dep := by
    intro ds
    induction ds with
    | nil => exact fun _ => ⟨rfl, Nat.zero_le _⟩
    | cons d ds ih =>
      intro h
      obtain ⟨h1, h2⟩ := ih fun x hx => h x (List.mem_cons_of_mem _ hx)
      have hd := h d List.mem_cons_self
      refine ⟨?_, ?_⟩
      · show (PyData.canLay0 d && PyData.canLayAll0 ds) = true
        rw [hd.c, h1]; rfl
      · show max (PyData.depth d) (PyData.depthAll ds) ≤ dep
        exact Nat.max_le.mpr ⟨hd.dp, h2⟩
  obtain ⟨h1, h2⟩ := all ds h
  exact ⟨h1, Nat.succ_le_succ h2⟩
theorem lay_I (ns : List Int) : Lay (py ns) 1 := lay_tup fun d hd => by
  obtain ⟨k, _, rfl⟩ := List.mem_map.mp hd
  exact lay_int
theorem twoStr_l {b : Bool} {ds : List D} {y : D} : twoStr (.tup b ds) y = none := rfl
theorem eq_nil {b : Bool} {ds : List D} {ps : List PyData} (hne : ds ≠ []) (hp : toPys ds = some ps) (hl : Lay (.tuple ps) 60) : eqD (.tup b ds) (.tup false []) = some (.bl false) := by
  rw [eqD_py (toPy_tup hp) (q := .tuple []) rfl (hl.shaped (by omega)) rfl rfl]
  cases ds with
  | nil => exact absurd rfl hne
  | cons d ds =>
    unfold toPys at hp
    cases hd : toPy d with
    | none => rw [hd] at hp; cases hp
    | some p =>
      cases hds : toPys ds with
      | none => rw [hd, hds] at hp; cases hp
      | some ps' => rw [hd, hds] at hp; cases hp; rfl
theorem ne_nil {b : Bool} {ds : List D} {ps : List PyData} (hne : ds ≠ []) (hp : toPys ds = some ps) (hl : Lay (.tuple ps) 60) : neD (.tup b ds) (.tup false []) = some (.bl true) := by
  have := eq_nil (b := b) hne hp hl
  rw [eqD_py (toPy_tup hp) (q := .tuple []) rfl (hl.shaped (by omega)) rfl rfl] at this
  rw [neD_py (toPy_tup hp) (q := .tuple []) rfl (hl.shaped (by omega)) rfl rfl]
  have h2 : PyData.eqv (.tuple ps) (.tuple []) = false := by simpa using this
  rw [h2]; rfl
theorem Lay.mono {d : PyData} {a b : Nat} (h : Lay d a) (hab : a ≤ b) : Lay d b := ⟨h.c, Nat.le_trans h.dp hab⟩
/-! throws -/
abbrev Th := List (List Int × Int)
def TH (a b : Bool) (t : Th) : List D := t.map fun p => .tup a [.tup b (I p.1), .int p.2]
structure IsLot (l : List Int) : Prop where
  ne : l ≠ []
  asc : l.Pairwise (· < ·)
  rg : ∀ k ∈ l, 0 ≤ k ∧ k ≤ 7
structure IsTh (n : Nat) (t : Th) : Prop where
  n1 : 1 ≤ n
  n8 : n ≤ 8
  lots : ∀ p ∈ t, IsLot p.1 ∧ (p.2 = 1 ∨ p.2 = -1)
  all : (t.flatMap (·.1)).Perm (row n)
theorem ltD_all : ∀ {a b : List Int}, (∀ (i : Nat) x y, a[i]? = some x → b[i]? = some y → x < y) → ∀ d ∈ List.zipWith (fun x y => D.tup false [x, y]) (I a) (I b), ∃ x y : Int, d = .tup false [.int x, .int y] ∧ x < y
  | [], _, _, d, hd => by simp at hd
  | _ :: _, [], _, d, hd => by simp at hd
  | x :: a, y :: b, h, d, hd => by
    rcases List.mem_cons.mp (show d ∈ D.tup false [.int x, .int y] :: List.zipWith (fun x y => D.tup false [x, y]) (I a) (I b) from hd) with e | e
    · exact ⟨x, y, e, h 0 x y rfl rfl⟩
    · exact ltD_all (fun i u v h1 h2 => h (i + 1) u v (by simpa using h1) (by simpa using h2)) d e
theorem blsD_true : ∀ {ds : List D}, (∀ d ∈ ds, d = .bl true) → allD [.lst ds] = some (.bl true) := by
  intro ds h
  have : blsD ds = some (List.replicate ds.length true) := by
    induction ds with
    | nil => rfl
    | cons d ds ih =>
      have := h d List.mem_cons_self
      subst this
      show (blsD ds).map (true :: ·) = _
      rw [ih fun x hx => h x (List.mem_cons_of_mem _ hx)]; rfl
  show (blsD ds).map (fun bs => D.bl (bs.all id)) = _
  rw [this]
  simp
theorem nodup_len {l : List Int} : ∀ {r : List Int}, l.Nodup → (∀ x ∈ l, x ∈ r) → l.length ≤ r.length := by
  induction l with
  | nil => intro r _ _; exact Nat.zero_le _
  | cons a l ih =>
    intro r nd sub
    have ha := sub a List.mem_cons_self
    have nd' := List.nodup_cons.mp nd
    have := ih (r := r.erase a) nd'.2 fun x hx => (List.mem_erase_of_ne (fun z => nd'.1 (by rw [← z]; exact hx))).mpr (sub x (List.mem_cons_of_mem _ hx))
    rw [List.length_erase_of_mem ha] at this
    have := List.length_pos_of_mem ha
    rw [List.length_cons]
    omega
theorem all_true {ds : List D} : (ds.all fun _ => true) = true := List.all_eq_true.mpr fun _ _ => rfl
theorem are_kinds_ok {l : List Int} {n : Int} {b : Bool} {s : S} (h : ∀ k ∈ l, 0 ≤ k ∧ k ≤ n - 1) : r_are_kinds [.int n, .tup b (I l)] s = some (.bl true, s) := by
  refine run_ev rfl ?_
  unfold b_are_kinds
  show Wp _ ⟨s, [.dat (.int n), .dat (.tup b (I l)), .un]⟩ _
  have := ev_all (it := seqI (varM 1)) (k := tgN 2) (te := callM 2 r_is_kind (consM (varM 0) (consM (varM 2) (pureM [])))) (s := s) (vs := [2]) (r := [.dat (.int n), .dat (.tup b (I l)), .un]) (ds := I l) (fun x => [.dat (.int n), .dat (.tup b (I l)), .dat x]) (fun _ => true) (ev_seq (ev_var rfl) rfl) rfl rfl (fun x _ => tg1) (fun x _ => rfl) (fun x hx => by
      obtain ⟨k, hk, rfl⟩ := List.mem_map.mp hx
      have hb := h k hk
      refine ev_call (ev_cons (ev_var rfl) (ev_cons (ev_var rfl) ev_nil)) ?_ rfl
      rw [is_kind_ok]
      exact congrArg some (congrArg (·, s) (congrArg D.bl (decide_eq_true (by omega)))))
  rw [all_true] at this
  exact wpe_ret this ⟨rfl, rfl⟩
theorem is_ascending_ok {l : List Int} {b : Bool} {s : S} (hne : l ≠ []) (hn : l.length ≤ 1000) (asc : l.Pairwise (· < ·)) : r_is_ascending [.tup b (I l)] s = some (.bl true, s) := by
  refine run_ev rfl ?_
  unfold b_is_ascending
  show Wp _ ⟨s, [.dat (.tup b (I l)), .un, .un]⟩ _
  refine wpe_ret (ev_callD (ev_cons (ev_ofL (ev_map (ds := List.zipWith (fun x y => D.tup false [x, y]) (I l) (I l.tail)) (fun x => match x with | .tup _ [u, v] => [.dat (.tup b (I l)), .dat u, .dat v] | _ => []) (fun _ => .bl true) ?_ ?_ rfl rfl (fun x hx => ?_) (fun x hx => ?_) fun x hx => ?_)) ev_nil) (blsD_true fun d hd => ?_)) ⟨rfl, rfl⟩
  · refine ev_it (ev_cons (ev_var rfl) (ev_cons (ev_sl (ev_var rfl) (ev_part ev_pure) ev_pure (y := .tup false (I l.tail)) ?_) ev_nil)) ?_
    · unfold slD
      simp only
      have h1 : l.length ≠ 0 := fun e => hne (List.eq_nil_of_length_eq_zero e)
      have e1 : HT.sIx (I l).length 0 (some 1) = 1 := by
        rw [lenI]; unfold HT.sIx; simp; omega
      rw [if_neg (by rw [e1]; simp)]
      refine congrArg some (congrArg (D.tup false) ?_)
      unfold cutL
      rw [e1]
      have e2 : HT.sIx (I l).length (I l).length none = (I l).length := rfl
      rw [e2]
      cases l with
      | nil => exact absurd rfl hne
      | cons x l => exact List.take_of_length_le (by simp)
    · rfl
  · rw [List.length_zipWith, lenI, sizeLine_eq]; omega
  all_goals
    first
      | (obtain ⟨u, v, rfl, hlt⟩ := ltD_all (a := l) (b := l.tail) (fun i x y h1 h2 => by
          rw [List.getElem?_tail] at h2
          have a1 := List.getElem?_eq_some_iff.mp h1
          have a2 := List.getElem?_eq_some_iff.mp h2
          obtain ⟨b1, rfl⟩ := a1
          obtain ⟨b2, rfl⟩ := a2
          exact List.pairwise_iff_getElem.mp asc i (i + 1) b1 b2 (by omega)) x hx
         first | exact tg2 | rfl | exact ev_op2 (ev_var rfl) (ev_var rfl) (by rw [ltD_ii, decide_eq_true hlt]))
      | (obtain ⟨x, _, rfl⟩ := List.mem_map.mp hd; rfl)
theorem IsLot.len {l : List Int} (h : IsLot l) : l.length ≤ 8 := by
  have := nodup_len (r := row 8) (h.asc.imp fun h => by omega) (fun k hk => mem_row.mpr (by have := h.rg k hk; omega))
  rwa [row_len] at this
theorem is_lot_ok {l : List Int} {b : Bool} {s : S} (h : IsLot l) : r_is_lot [.tup b (I l)] s = some (.bl true, s) := by
  refine run_ev rfl ?_
  unfold b_is_lot
  show Wp _ ⟨s, [.dat (.tup b (I l))]⟩ _
  refine wpe_pass (ev_tOr (c := false) (c2 := false) (ev_tNot (c := true) (ev_test (ev_callD (ev_cons (ev_var rfl) (ev_cons ev_pure ev_nil)) isi_tt))) fun _ => ev_test (ev_op2 (ev_var rfl) (ev_tup ev_nil (Nat.zero_le _)) (eq_nil (fun e => h.ne (by simpa using e)) (toPys_I l) ((lay_I l).mono (by omega))))) ?_
  exact wpe_ret (ev_and (c := true) (c2 := true) (ev_call (ev_cons ev_pure (ev_cons (ev_var rfl) ev_nil)) (are_kinds_ok fun k hk => by have := h.rg k hk; omega) rfl) fun _ => ev_call (ev_cons (ev_var rfl) ev_nil) (is_ascending_ok h.ne (by have := h.len; omega) h.asc) rfl) ⟨rfl, rfl⟩
theorem is_signed_lot_ok {l : List Int} {g : Int} {a b : Bool} {s : S} (h : IsLot l) (hg : g = 1 ∨ g = -1) : r_is_signed_lot [.tup a [.tup b (I l), .int g]] s = some (.bl true, s) := by
  refine run_ev rfl ?_
  unfold b_is_signed_lot
  show Wp _ ⟨s, [.dat (.tup a [.tup b (I l), .int g]), .un, .un]⟩ _
  refine wpe_pass (ev_tOr (c := false) (c2 := false) (ev_tNot (c := true) (ev_test (ev_callD (ev_cons (ev_var rfl) (ev_cons ev_pure ev_nil)) isi_tt))) fun _ => ev_test (ev_op2 (ev_callD (ev_cons (ev_var rfl) ev_nil) lenD_t) ev_pure neD_ii)) ?_
  refine wpe_asg (ev_var rfl) (tg2.mono fun _ s1 e => ?_)
  subst e
  refine wpe_ret (ev_and (c := true) (c2 := true) (ev_call (ev_cons (ev_var rfl) ev_nil) (is_lot_ok h) rfl) fun _ => ev_and (c := true) (c2 := true) (ev_call (ev_cons (ev_var rfl) ev_nil) is_integer_ok rfl) fun _ => ev_op2 (ev_var rfl) (ev_tup (ev_cons ev_pure (ev_cons ev_pure ev_nil)) (by rw [sizeLine_eq]; simp)) ?_) ⟨rfl, rfl⟩
  rcases hg with rfl | rfl <;> rfl
theorem TH_mem {a b : Bool} {t : Th} {x : D} (h : x ∈ TH a b t) : ∃ l g, (l, g) ∈ t ∧ x = .tup a [.tup b (I l), .int g] := by
  obtain ⟨⟨l, g⟩, hm, rfl⟩ := List.mem_map.mp h
  exact ⟨l, g, hm, rfl⟩
def pyT (t : Th) : PyData := .tuple (t.map fun p => .tuple [py p.1, .int p.2])
theorem toPys_TH {a b : Bool} : ∀ (t : Th), toPys (TH a b t) = some (t.map fun p => .tuple [py p.1, .int p.2])
  | [] => rfl
  | p :: t => toPys_cons (toPy_tup (toPys_cons toPy_I (toPys_cons rfl rfl))) (toPys_TH t)
theorem lay_T (t : Th) : Lay (pyT t) 3 := lay_tup fun d hd => by
  obtain ⟨p, _, rfl⟩ := List.mem_map.mp hd
  refine lay_tup fun e he => ?_
  rcases List.mem_cons.mp he with rfl | he
  · exact lay_I _
  · rcases List.mem_cons.mp he with rfl | he
    · exact lay_int.mono (by omega)
    · cases he
def kindsT (t : Th) : List Int := t.flatMap (·.1)
theorem kinds_flat {a b : Bool} : ∀ (t : Th), ((TH a b t).flatMap fun x => ((match x with | .tup _ [.tup _ l, _] => l | _ => [] : List D)).map fun y => y) = I (kindsT t)
  | [] => rfl
  | p :: t => by
    have := kinds_flat (a := a) (b := b) t
    exact (congrArg ((I p.1).map (fun y => y) ++ ·) this).trans (by
      show _ = I (p.1 ++ kindsT t)
      simp only [List.map_id']
      unfold I
      rw [List.map_append])
theorem IsTh.kindsLen {n : Nat} {t : Th} (h : IsTh n t) : (kindsT t).length = n := by
  have := h.all.length_eq
  rwa [row_len] at this
theorem IsTh.ne {n : Nat} {t : Th} (h : IsTh n t) : t ≠ [] := fun e => by
  subst e
  have := h.kindsLen
  have := h.n1
  simp [kindsT] at *
  omega
theorem IsTh.ord {n : Nat} {t : Th} (h : IsTh n t) : OrdP (kindsT t) := by
  have := h.all
  unfold OrdP
  rw [h.kindsLen]
  exact this
theorem IsTh.len {n : Nat} {t : Th} (h : IsTh n t) : t.length ≤ 8 := by
  have h1 : t.length ≤ (kindsT t).length := by
    have : ∀ t : Th, (∀ p ∈ t, p.1 ≠ []) → t.length ≤ (kindsT t).length := by
      intro t
      induction t with
      | nil => intro _; exact Nat.zero_le _
      | cons p t ih =>
        intro hp
        have h1 := ih fun q hq => hp q (List.mem_cons_of_mem _ hq)
        have h2 : 0 < p.1.length := List.length_pos_iff.mpr (hp p List.mem_cons_self)
        show t.length + 1 ≤ (p.1 ++ kindsT t).length
        rw [List.length_append]
        omega
    exact this t fun p hp => (h.lots p hp).1.ne
  have := h.kindsLen
  have := h.n8
  omega
theorem th_len {a b : Bool} {t : Th} : (TH a b t).length = t.length := List.length_map ..
theorem is_throw_ok {n : Nat} {t : Th} {a b c : Bool} {s : S} (h : IsTh n t) : r_is_throw [.tup c (TH a b t)] s = some (.bl true, s) := by
  refine run_ev rfl ?_
  unfold b_is_throw
  show Wp _ ⟨s, [.dat (.tup c (TH a b t)), .un, .un, .un, .un, .un]⟩ _
  refine wpe_pass (ev_tOr (c := false) (c2 := false) (ev_tNot (c := true) (ev_test (ev_callD (ev_cons (ev_var rfl) (ev_cons ev_pure ev_nil)) isi_tt))) fun _ => ev_test (ev_op2 (ev_var rfl) (ev_tup ev_nil (Nat.zero_le _)) (eq_nil (fun e => h.ne (by simpa [TH] using e)) (toPys_TH t) ((lay_T t).mono (by omega))))) ?_
  refine wpe_pass (ev_tNot (c := true) (ev_test ?_)) ?_
  · have := ev_all (it := seqI (varM 0)) (k := tgN 5) (te := callM 1 r_is_signed_lot (consM (varM 5) (pureM []))) (s := s) (vs := [5]) (r := [.dat (.tup c (TH a b t)), .un, .un, .un, .un, .un]) (ds := TH a b t) (fun x => [.dat (.tup c (TH a b t)), .un, .un, .un, .un, .dat x]) (fun _ => true) (ev_seq (ev_var rfl) rfl) rfl rfl (fun x _ => tg1) (fun x _ => rfl) (fun x hx => by
      obtain ⟨l, g, hm, rfl⟩ := TH_mem hx
      exact ev_call (ev_cons (ev_var rfl) ev_nil) (is_signed_lot_ok (h.lots _ hm).1 (h.lots _ hm).2) rfl)
    rwa [all_true] at this
  · have ek : Ev (compM2 (seqI (varM 0)) (tgT [tgN 3, tgN 4]) (pureM true) (seqI (varM 3)) (tgN 2) (pureM true) (varM 2) [3, 4, 2] [2]) ⟨s, [.dat (.tup c (TH a b t)), .un, .un, .un, .un, .un]⟩ (I (kindsT t)) := by
      rw [← kinds_flat (a := a) (b := b) t]
      refine ev_comp2 (fun x => match x with | .tup _ [u, v] => [.dat (.tup c (TH a b t)), .un, .un, .dat u, .dat v, .un] | _ => []) (fun x y => match x with | .tup _ [u, v] => [.dat (.tup c (TH a b t)), .un, .dat y, .dat u, .dat v, .un] | _ => [])
        (fun x => match x with | .tup _ [.tup _ l, _] => l | _ => []) (fun _ y => y) (ev_seq (ev_var rfl) rfl) ?_ rfl rfl ?_ ?_ ?_ ?_ ?_ ?_ ?_
      · rw [kinds_flat, lenI, h.kindsLen, sizeLine_eq]
        have := h.n8
        omega
      all_goals
        intro x hx
        obtain ⟨l, g, hm, rfl⟩ := TH_mem hx
        first
          | exact tg2
          | exact ev_seq (ev_var rfl) rfl
          | rfl
          | (intro y hy; first | exact tg1 | rfl | exact ev_var rfl)
    refine wpe_ownF ek (by simp) ?_
    have e1 : sortD [.lst (I (kindsT t))] = some (I (row n)) := by
      unfold sortD
      simp only [asSeq, Option.bind_some]
      rw [show intsD (I (kindsT t)) = some (kindsT t) from intsD_of _]
      simp only [Option.bind_some]
      rw [if_pos (by rw [sizeLine_eq, h.kindsLen]; have := h.n8; omega), h.ord.sort, h.kindsLen]
      rfl
    have e2 : rgD (.int (n : Int)) = some (I (row n)) := by rw [rgD_int (by have := h.n8; omega), rng_eq]; rfl
    have hlen : (I (kindsT t)).length = n := by rw [lenI, h.kindsLen]
    refine wpe_ret (ev_op2 (ev_ofL (ev_callL (ev_cons (ev_var rfl) ev_nil) e1)) (ev_ofL (ev_listRg (ev_callD (ev_cons (ev_var rfl) ev_nil) (show lenD [.lst (I (kindsT t))] = some (.int (n : Int)) from by rw [lenD_l, hlen])) e2)) (eqD_same _)) ⟨rfl, rfl⟩
theorem need_throw_ok {n : Nat} {t : Th} {a b c : Bool} {s : S} (h : IsTh n t) : r_need_throw [.tup c (TH a b t)] s = some (.non, s) := by
  refine run_evN rfl ?_
  unfold b_need_throw
  exact wpe_pass (ev_tNot (c := true) (ev_test (ev_call (ev_cons (ev_var rfl) ev_nil) (is_throw_ok h) rfl))) (wp_pure.mpr ⟨rfl, rfl⟩)
theorem sum_lens : ∀ t : Th, (t.map fun p => (p.1.length : Int)).sum = ((kindsT t).length : Int)
  | [] => rfl
  | p :: t => by
    show (p.1.length : Int) + (t.map fun p => (p.1.length : Int)).sum = ((p.1 ++ kindsT t).length : Int)
    rw [sum_lens t, List.length_append]
    omega
theorem lens_TH {a b : Bool} : ∀ t : Th, ((TH a b t).map fun x => (match x with | .tup _ [.tup _ l, _] => .int (l.length : Int) | _ => .non : D)) = I (t.map fun p => (p.1.length : Int))
  | [] => rfl
  | p :: t => by
    show D.int ((I p.1).length : Int) :: _ = D.int _ :: _
    rw [lenI]
    exact congrArg _ (lens_TH t)
theorem size_of_ok {n : Nat} {t : Th} {a b c : Bool} {s : S} (h : IsTh n t) : r_size_of [.tup c (TH a b t)] s = some (.int (n : Int), s) := by
  refine run_ev rfl ?_
  unfold b_size_of
  show Wp _ ⟨s, [.dat (.tup c (TH a b t)), .un, .un]⟩ _
  refine wpe_drop (ev_call (ev_cons (ev_var rfl) ev_nil) (need_throw_ok h) rfl) ?_
  have ek : Ev (compM (seqI (varM 0)) (tgT [tgN 1, tgN 2]) (pureM true) (callD lenD (consM (varM 1) (pureM []))) [1, 2]) ⟨s, [.dat (.tup c (TH a b t)), .un, .un]⟩ (I (t.map fun p => (p.1.length : Int))) := by
    rw [← lens_TH (a := a) (b := b)]
    refine ev_map (fun x => match x with | .tup _ [u, v] => [.dat (.tup c (TH a b t)), .dat u, .dat v] | _ => []) _ (ev_seq (ev_var rfl) rfl) ?_ rfl rfl ?_ ?_ ?_
    · rw [th_len, sizeLine_eq]; have := h.len; omega
    all_goals
      intro x hx
      obtain ⟨l, g, hm, rfl⟩ := TH_mem hx
      first
        | exact tg2
        | rfl
        | exact ev_callD (ev_cons (ev_var rfl) ev_nil) lenD_t
  refine wpe_ret (ev_callD (ev_cons (ev_ofL ek) ev_nil) ?_) ⟨rfl, rfl⟩
  show (intsD (I (t.map fun p => (p.1.length : Int)))).map (fun ns => D.int ns.sum) = _
  rw [show intsD (I (t.map fun p => (p.1.length : Int))) = some _ from intsD_of _, Option.map_some, sum_lens, h.kindsLen]
/-- the cards of the kinds of a lot -/
def places (l ds : List Int) : List Int := (ds.zipIdx.filter fun p => decide (p.1 ∈ l)).map fun p => ((p.2 : Nat) : Int)
theorem enum_I (ds : List Int) : enumL (I ds) = ds.zipIdx.map fun p => .tup false [.int (p.2 : Nat), .int p.1] := by
  unfold enumL I
  rw [List.zipIdx_map, List.map_map]
  rfl
theorem places_comp (l ds : List Int) : ((enumL (I ds)).filter fun x => (match x with | .tup _ [_, .int k] => decide (k ∈ l) | _ => false)).map (fun x => (match x with | .tup _ [u, _] => u | _ => .non : D)) = I (places l ds) := by
  rw [enum_I, List.filter_map, List.map_map]
  unfold places I
  rw [List.map_map]
  rfl
def lotCards (l : List Int) (g : Int) (ds : List Int) : List Int := if g = 1 then places l ds else (places l ds).reverse
theorem cards_of_lot_ok {l ds : List Int} {g : Int} {b c : Bool} {s : S} (h60 : ds.length ≤ 1000) : r_cards_of_lot [.tup b (I l), .int g, .tup c (I ds)] s = some (.lst (I (lotCards l g ds)), s) := by
  refine run_ev rfl ?_
  unfold b_cards_of_lot
  show Wp _ ⟨s, [.dat (.tup b (I l)), .dat (.int g), .dat (.tup c (I ds)), .un, .un, .un]⟩ _
  have ek : Ev (compM (itM enumD (consM (varM 2) (pureM []))) (tgT [tgN 4, tgN 5]) (testM (op2M (inD false) (varM 5) (varM 0))) (varM 4) [4, 5]) ⟨s, [.dat (.tup b (I l)), .dat (.int g), .dat (.tup c (I ds)), .un, .un, .un]⟩ (I (places l ds)) := by
    rw [← places_comp]
    refine ev_comp (fun x => match x with | .tup _ [u, v] => [.dat (.tup b (I l)), .dat (.int g), .dat (.tup c (I ds)), .un, .dat u, .dat v] | _ => []) _ _ (ev_it (ev_cons (ev_var rfl) ev_nil) rfl) ?_ rfl rfl ?_ ?_ ?_ ?_
    · rw [enumL_len, lenI, sizeLine_eq]; omega
    all_goals
      intro x hx
      rw [enum_I] at hx
      obtain ⟨p, hm, rfl⟩ := List.mem_map.mp hx
      first
        | exact tg2
        | rfl
        | (intro _; exact ev_var rfl)
        | (refine ev_test (ev_op2 (ev_var rfl) (ev_var rfl) ?_)
           show (intsD (I l)).map (fun ns => D.bl (if false = true then !decide (p.1 ∈ ns) else decide (p.1 ∈ ns))) = _
           rw [show intsD (I l) = some l from intsD_of l]
           rfl)
  refine wpe_ownF ek (by simp) ?_
  refine wpe_ret (ev_ifM (ev_test (ev_op2 (ev_var rfl) ev_pure eqD_ii)) (fun _ => ev_var rfl) (y := .lst (I (places l ds).reverse)) fun _ => ev_turn (ev_var rfl) ?_) ⟨?_, rfl⟩
  · show some (D.lst (I (places l ds)).reverse) = _
    unfold I
    rw [List.map_reverse]
  · unfold lotCards
    by_cases hg : g = 1
    · rw [if_pos (by simpa using hg), if_pos hg]
    · rw [if_neg (by simpa using hg), if_neg hg]
def ordT (t : Th) (ds : List Int) : List Int := t.flatMap fun p => lotCards p.1 p.2 ds
theorem ord_flat {a b : Bool} {ds : List Int} : ∀ (t : Th), ((TH a b t).flatMap fun x => ((match x with | .tup _ [.tup _ l, .int g] => I (lotCards ((intsD l).getD []) g ds) | _ => [] : List D)).map fun y => y) = I (ordT t ds)
  | [] => rfl
  | p :: t => by
    have := ord_flat (a := a) (b := b) (ds := ds) t
    exact (congrArg ((I (lotCards ((intsD (I p.1)).getD []) p.2 ds)).map (fun y => y) ++ ·) this).trans (by
      show _ = I (lotCards p.1 p.2 ds ++ ordT t ds)
      rw [show intsD (I p.1) = some p.1 from intsD_of _]
      simp only [List.map_id', Option.getD_some]
      unfold I
      rw [List.map_append])
theorem mem_places {l ds : List Int} {k : Int} : k ∈ places l ds ↔ 0 ≤ k ∧ k < ds.length ∧ ds.getD k.toNat 0 ∈ l := by
  unfold places
  rw [List.mem_map]
  constructor
  · rintro ⟨⟨x, j⟩, hp, rfl⟩
    obtain ⟨h1, h2⟩ := List.mem_filter.mp hp
    have h3 := List.mem_zipIdx_iff_getElem?.mp h1
    simp only at h3 h2 ⊢
    obtain ⟨h4, h5⟩ := List.getElem?_eq_some_iff.mp h3
    refine ⟨by omega, by omega, ?_⟩
    rw [Int.toNat_natCast, List.getD_eq_getElem?_getD, h3]
    exact of_decide_eq_true h2
  · rintro ⟨h1, h2, h3⟩
    have h4 : ds[k.toNat]? = some (ds.getD k.toNat 0) := by
      rw [List.getD_eq_getElem?_getD, List.getElem?_eq_getElem (by omega)]; rfl
    exact ⟨(ds.getD k.toNat 0, k.toNat), List.mem_filter.mpr ⟨List.mem_zipIdx_iff_getElem?.mpr h4, decide_eq_true h3⟩, by simp only; omega⟩
theorem places_nodup (l ds : List Int) : (places l ds).Nodup := by
  unfold places
  refine List.pairwise_map.mpr ?_
  refine List.Pairwise.filter _ ?_
  have : (ds.zipIdx.map (·.2)).Nodup := by
    rw [List.zipIdx_map_snd]
    exact List.nodup_range'
  exact (List.pairwise_map.mp this).imp fun h e => h (by omega)
theorem mem_lotCards {l ds : List Int} {g k : Int} : k ∈ lotCards l g ds ↔ k ∈ places l ds := by
  unfold lotCards
  split
  · exact Iff.rfl
  · exact List.mem_reverse
theorem lotCards_nodup (l ds : List Int) (g : Int) : (lotCards l g ds).Nodup := by
  unfold lotCards
  split
  · exact places_nodup l ds
  · exact List.pairwise_reverse.mpr ((places_nodup l ds).imp fun h => h.symm)
/-- a deck of the first n kinds -/
def Dk (n : Nat) (ds : List Int) : Prop := ds.length ≤ 60 ∧ ∀ k ∈ ds, 0 ≤ k ∧ k ≤ (n : Int) - 1
theorem ordT_perm {n : Nat} {t : Th} {ds : List Int} (h : IsTh n t) (hd : ∀ k ∈ ds, 0 ≤ k ∧ k ≤ (n : Int) - 1) : (ordT t ds).Perm (row ds.length) := by
  have nd : (kindsT t).Nodup := h.ord.nodup
  refine (List.perm_ext_iff_of_nodup ?_ (row_nodup _)).mpr fun k => ?_
  · refine List.pairwise_flatMap.mpr ⟨fun p hp => lotCards_nodup _ _ _, ?_⟩
    refine (List.pairwise_flatMap.mp nd).2.imp fun {p q} hpq x hx y hy e => ?_
    subst e
    exact hpq _ (mem_places.mp (mem_lotCards.mp hx)).2.2 _ (mem_places.mp (mem_lotCards.mp hy)).2.2 rfl
  · rw [mem_row]
    constructor
    · intro hk
      obtain ⟨p, hp, hk⟩ := List.mem_flatMap.mp hk
      have := mem_places.mp (mem_lotCards.mp hk)
      omega
    · intro hk
      have h1 : ds.getD k.toNat 0 ∈ ds := getD_mem (by omega)
      have h2 := hd _ h1
      have h3 : ds.getD k.toNat 0 ∈ kindsT t := h.all.mem_iff.mpr (mem_row.mpr (by omega))
      obtain ⟨p, hp, h4⟩ := List.mem_flatMap.mp h3
      exact List.mem_flatMap.mpr ⟨p, hp, mem_lotCards.mpr (mem_places.mpr ⟨hk.1, hk.2, h4⟩)⟩
theorem ordT_len {n : Nat} {t : Th} {ds : List Int} (h : IsTh n t) (hd : ∀ k ∈ ds, 0 ≤ k ∧ k ≤ (n : Int) - 1) : (ordT t ds).length = ds.length := by
  have := (ordT_perm h hd).length_eq
  rwa [row_len] at this
theorem ordT_ord {n : Nat} {t : Th} {ds : List Int} (h : IsTh n t) (hd : ∀ k ∈ ds, 0 ≤ k ∧ k ≤ (n : Int) - 1) : OrdP (ordT t ds) := by
  unfold OrdP
  rw [ordT_len h hd]
  exact ordT_perm h hd
theorem order_after_ok {n : Nat} {t : Th} {ds : List Int} {a b c e : Bool} {s : S} (h : IsTh n t) (hd : Dk n ds) : r_order_after [.tup c (TH a b t), .tup e (I ds)] s = some (.tup true (I (ordT t ds)), s) := by
  refine run_ev rfl ?_
  unfold b_order_after
  show Wp _ ⟨s, [.dat (.tup c (TH a b t)), .dat (.tup e (I ds)), .un, .un, .un]⟩ _
  refine wpe_drop (ev_call (ev_cons (ev_call (ev_cons (ev_var rfl) ev_nil) (size_of_ok h) rfl) (ev_cons (ev_var rfl) ev_nil)) (need_deck_ok (by have := h.n1; have := h.n8; omega) hd.1 hd.2) rfl) ?_
  have ek : Ev (compM2 (seqI (varM 0)) (tgT [tgN 3, tgN 4]) (pureM true) (seqI (callM 3 r_cards_of_lot (consM (varM 3) (consM (varM 4) (consM (varM 1) (pureM [])))))) (tgN 2) (pureM true) (varM 2) [3, 4, 2] [2]) ⟨s, [.dat (.tup c (TH a b t)), .dat (.tup e (I ds)), .un, .un, .un]⟩ (I (ordT t ds)) := by
    rw [← ord_flat (a := a) (b := b) t]
    refine ev_comp2 (fun x => match x with | .tup _ [u, v] => [.dat (.tup c (TH a b t)), .dat (.tup e (I ds)), .un, .dat u, .dat v] | _ => []) (fun x y => match x with | .tup _ [u, v] => [.dat (.tup c (TH a b t)), .dat (.tup e (I ds)), .dat y, .dat u, .dat v] | _ => [])
      (fun x => match x with | .tup _ [.tup _ l, .int g] => I (lotCards ((intsD l).getD []) g ds) | _ => []) (fun _ y => y) (ev_seq (ev_var rfl) rfl) ?_ rfl rfl ?_ ?_ ?_ ?_ ?_ ?_ ?_
    · rw [ord_flat, lenI, ordT_len h hd.2, sizeLine_eq]
      have := hd.1
      omega
    all_goals
      intro x hx
      obtain ⟨l, g, hm, rfl⟩ := TH_mem hx
      first
        | exact tg2
        | (refine ev_seq (ev_call (ev_cons (ev_var rfl) (ev_cons (ev_var rfl) (ev_cons (ev_var rfl) ev_nil))) (cards_of_lot_ok (by have := hd.1; omega)) rfl) ?_
           show some (I (lotCards l g ds)) = some (I (lotCards ((intsD (I l)).getD []) g ds))
           rw [show intsD (I l) = some l from intsD_of _]; rfl)
        | rfl
        | (intro y hy; first | exact tg1 | rfl | exact ev_var rfl)
  exact wpe_ret (ev_callD (ev_cons (ev_ofL ek) ev_nil) rfl) ⟨rfl, rfl⟩
theorem deck_after_ok {n : Nat} {t : Th} {ds : List Int} {a b c e : Bool} {s : S} (h : IsTh n t) (hd : Dk n ds) : r_deck_after [.tup c (TH a b t), .tup e (I ds)] s = some (.tup true (I (app ds (ordT t ds))), s) := by
  refine run_ev rfl ?_
  unfold b_deck_after
  exact wpe_ret (ev_call (ev_cons (ev_var rfl) (ev_cons (ev_call (ev_cons (ev_var rfl) (ev_cons (ev_var rfl) ev_nil)) (order_after_ok h hd) rfl) ev_nil)) (laid_ok (fun k hk => by have := hd.2 k hk; have := h.n8; omega) (ordT_ord h hd.2) (ordT_len h hd.2) hd.1) rfl) ⟨rfl, rfl⟩
theorem rng1D_eq {j : Int} : rng1D [.int j] = if -(2 ^ 62) ≤ j ∧ j < 2 ^ 62 then some (rng 0 j.toNat) else none := by unfold rng1D; exact Eq.refl _
theorem repD_eq {xs : List D} {k : Int} : repD (.lst xs) (.int k) = if -(2 ^ 63) ≤ k ∧ k < 2 ^ 63 ∧ xs.length * k.toNat ≤ sizeLine then some (.lst (List.replicate k.toNat xs).flatten) else none := by unfold repD; exact Eq.refl _
theorem popAt_eq {xs : List D} {i : Int} : fPopAt xs [.int i] = if -(2 ^ 63) ≤ i ∧ i < 2 ^ 63 then (seqIndex? i xs.length).bind fun k => (xs[k]?).map fun d => (d, xs.eraseIdx k) else none := by unfold fPopAt; exact Eq.refl _
theorem rng1_row {n : Nat} (h : n ≤ 1000) : rng1D [.int (n : Int)] = some (I (row n)) := by
  rw [rng1D_eq, if_pos (by omega), Int.toNat_natCast, rng_eq]; rfl
theorem atI_in {ds : List D} {k : Int} (h0 : 0 ≤ k) (h1 : k < ds.length) : ∃ d, L2.atI ds k = some d ∧ d ∈ ds := by
  obtain ⟨j, rfl⟩ : ∃ j : Nat, k = j := ⟨k.toNat, by omega⟩
  have hj : j < ds.length := by omega
  exact ⟨ds[j], atI_nat (List.getElem?_eq_getElem hj), List.getElem_mem hj⟩
theorem flat_one {d : D} : ∀ n : Nat, (List.replicate n [d]).flatten = List.replicate n d
  | 0 => rfl
  | n + 1 => by rw [List.replicate_succ, List.flatten_cons, flat_one n]; rfl
theorem popAt_ok {xs : List D} {j : Nat} (h : j < xs.length) (hx : xs.length ≤ 100000) : fPopAt xs [.int (j : Int)] = some (xs[j], xs.eraseIdx j) := by
    rw [popAt_eq, if_pos (by omega)]
    have : seqIndex? (j : Int) xs.length = some j := by
      unfold seqIndex?
      simp only [show ¬ ((j : Int) < 0) by omega, if_false]
      rw [if_pos (by simp; omega)]
      rfl
    rw [this, Option.bind_some, List.getElem?_eq_getElem h]
    rfl
theorem erase_perm {l : List Int} {j : Nat} (h : j < l.length) : (l[j] :: l.eraseIdx j).Perm l := by
  induction l generalizing j with
  | nil => exact absurd h (Nat.not_lt_zero _)
  | cons a l ih =>
    cases j with
    | zero => exact List.Perm.refl _
    | succ j =>
      have := ih (j := j) (by simpa using h)
      exact (List.Perm.swap a (l[j]'(by simpa using h)) _).trans (this.cons a)
theorem erase_map : ∀ (l : List Int) (j : Nat), (l.map D.int).eraseIdx j = (l.eraseIdx j).map D.int
  | [], _ => rfl
  | a :: l, 0 => rfl
  | a :: l, j + 1 => congrArg (D.int a :: ·) (erase_map l j)
theorem append_ok {xs : List D} {d : D} (h : xs.length ≤ 100000) : fAppend xs [d] = some (.non, xs ++ [d]) := by
  show (if xs.length < sizeLine then some (D.non, xs ++ [d]) else none) = _
  rw [if_pos (by rw [sizeLine_eq]; omega)]
end GA.P
namespace GA
open PySem PySem.Spec PyProof.Rows L2 GenW
theorem getP_put {kds : List (Key × D)} {j k : Key} {d : D} : getP (putP kds j d) k = if j = k then some d else getP kds k := by
  unfold getP putP
  by_cases hj : (kds.any fun kv => decide (kv.1 = j)) = true
  · rw [if_pos hj]
    induction kds with
    | nil => cases hj
    | cons p l ih =>
      rw [List.map_cons, List.find?_cons, List.find?_cons]
      by_cases hp : p.1 = j
      · rw [if_pos (by simpa using hp)]
        by_cases hk : j = k
        · have hpk := hp.trans hk
          simp [hk, hpk]
        · have : p.1 ≠ k := fun e => hk (hp.symm.trans e)
          simp only [hk, decide_false, this, if_false]
          clear ih hj
          induction l with
          | nil => rfl
          | cons q l ih =>
            rw [List.map_cons, List.find?_cons, List.find?_cons]
            by_cases hq : q.1 = j
            · rw [if_pos (by simpa using hq)]
              have : q.1 ≠ k := fun e => hk (hq.symm.trans e)
              simp only [hk, decide_false, this]
              exact ih
            · rw [if_neg (by simpa using hq)]
              by_cases hqk : q.1 = k
              · simp [hqk]
              · simp only [hqk, decide_false]
                exact ih
      · rw [if_neg (by simpa using hp)]
        by_cases hpk : p.1 = k
        · have : j ≠ k := fun e => hp (hpk.trans e.symm)
          simp [hpk, this]
        · simp only [hpk, decide_false]
          exact ih (by simpa [hp] using hj)
  · rw [if_neg hj, List.find?_append]
    by_cases hk : j = k
    · subst hk
      have : kds.find? (fun kv => decide (kv.1 = j)) = none := by
        rw [List.find?_eq_none]
        intro x hx hc
        exact hj (List.any_eq_true.mpr ⟨x, hx, hc⟩)
      rw [this]
      simp
    · simp only [hk, if_false, List.find?_cons, decide_false, List.find?_nil, Option.or_none]
theorem putP_len {kds : List (Key × D)} {j : Key} {d : D} : (putP kds j d).length ≤ kds.length + 1 := by
  unfold putP
  split
  · rw [List.length_map]; omega
  · rw [List.length_append]; exact Nat.le_refl _
end GA
namespace GA.P
open PySem PySem.Spec PyProof.Rows L2 GenW HT
theorem places_nil (l : List Int) : places l [] = [] := rfl
theorem places_snoc {l ds : List Int} {k : Int} : places l (ds ++ [k]) = places l ds ++ if k ∈ l then [(ds.length : Int)] else [] := by
  unfold places
  rw [List.zipIdx_append, List.filter_append, List.map_append]
  congr 1
  show ((List.filter _ [(k, 0 + ds.length)]).map _ : List Int) = _
  by_cases h : k ∈ l
  · rw [if_pos h, List.filter_cons_of_pos (by simpa using h)]
    simp
  · rw [if_neg h, List.filter_cons_of_neg (by simpa using h)]
    rfl
theorem enum_TH {a b : Bool} {t : Th} {i : Nat} {x : D} (h : (enumL (TH a b t))[i]? = some x) : ∃ l g, t[i]? = some (l, g) ∧ x = .tup false [.int (i : Nat), .tup a [.tup b (I l), .int g]] := by
  obtain ⟨e, he, rfl⟩ := enumL_get h
  unfold TH at he
  rw [List.getElem?_map] at he
  cases q : t[i]? with
  | none => rw [q] at he; cases he
  | some p => rw [q] at he; cases he; exact ⟨p.1, p.2, rfl, rfl⟩
/-- the heaps after the first cards -/
def heaps (t : Th) (ds : List Int) : List D := t.map fun p => .lst (I (lotCards p.1 p.2 ds))
theorem lotCards_len {l ds : List Int} {g : Int} : (lotCards l g ds).length ≤ ds.length := by
  have : (places l ds).length ≤ ds.length := by
    unfold places
    rw [List.length_map]
    exact Nat.le_trans (List.length_filter_le _ _) (by rw [List.length_zipIdx]; exact Nat.le_refl _)
  unfold lotCards
  split
  · exact this
  · rw [List.length_reverse]; exact this
theorem ordT_le {ds : List Int} : ∀ {t : Th}, (ordT t ds).length ≤ t.length * ds.length
  | [] => Nat.zero_le _
  | p :: t => by
    have := ordT_le (ds := ds) (t := t)
    have h1 := lotCards_len (l := p.1) (g := p.2) (ds := ds)
    show (lotCards p.1 p.2 ds ++ ordT t ds).length ≤ (t.length + 1) * ds.length
    rw [List.length_append, Nat.succ_mul]
    omega
theorem cat_ok {xs ys : List D} (h : xs.length + ys.length ≤ 100000) : addD (.lst xs) (.lst ys) = some (.lst (xs ++ ys)) := by
  show (if xs.length + ys.length ≤ sizeLine then some (D.lst (xs ++ ys)) else none) = _
  rw [if_pos (by rw [sizeLine_eq]; omega)]
theorem extend_ok {xs ys : List D} (h : xs.length + ys.length ≤ 100000) : fExtend xs [.lst ys] = some (.non, xs ++ ys) := by
  show (if xs.length + ys.length ≤ sizeLine then some (D.non, xs ++ ys) else none) = _
  rw [if_pos (by rw [sizeLine_eq]; omega)]
/-- the kinds that lie at place a -/
def lotAt (pl : List Int) (n : Nat) (a : Int) : List Int := (row n).filter fun k => pl.getD k.toNat 0 == a
theorem row_sorted (n : Nat) : (row n).Pairwise (· < ·) := by
  unfold row
  exact List.pairwise_map.mpr (List.pairwise_lt_range.imp fun h => by omega)
theorem filter_I {p : D → Bool} {q : Int → Bool} (h : ∀ k, p (.int k) = q k) : ∀ ns : List Int, (I ns).filter p = I (ns.filter q)
  | [] => rfl
  | k :: ns => by
    show List.filter p (D.int k :: I ns) = _
    by_cases hk : q k = true
    · rw [List.filter_cons_of_pos (by rw [h]; exact hk), List.filter_cons_of_pos hk, filter_I h ns]; rfl
    · rw [List.filter_cons_of_neg (by rw [h]; exact hk), List.filter_cons_of_neg hk, filter_I h ns]
theorem isLot_at {pl : List Int} {n : Nat} {a : Int} (hn8 : n ≤ 8) (h : lotAt pl n a ≠ []) : IsLot (lotAt pl n a) := ⟨h, (row_sorted n).filter _, fun k hk => by
  have := mem_row.mp (List.mem_filter.mp hk).1
  omega⟩
theorem lots_perm {pl : List Int} {n m : Nat} (hl : pl.length = n) (hr : ∀ k ∈ pl, 0 ≤ k ∧ k < (m : Int)) : ((row m).flatMap fun a => lotAt pl n a).Perm (row n) := by
  refine (List.perm_ext_iff_of_nodup ?_ (row_nodup _)).mpr fun k => ?_
  · refine List.pairwise_flatMap.mpr ⟨fun a _ => (row_nodup n).filter _, (row_nodup m).imp fun {a b} hab x hx y hy e => ?_⟩
    subst e
    have h1 := (List.mem_filter.mp hx).2
    have h2 := (List.mem_filter.mp hy).2
    simp at h1 h2
    exact hab (h1.symm.trans h2)
  · constructor
    · intro hk
      obtain ⟨a, _, ha⟩ := List.mem_flatMap.mp hk
      exact (List.mem_filter.mp ha).1
    · intro hk
      have h1 := mem_row.mp hk
      have h2 := hr _ (getD_mem (os := pl) (j := k.toNat) (by omega))
      exact List.mem_flatMap.mpr ⟨_, mem_row.mpr h2, List.mem_filter.mpr ⟨hk, by simp⟩⟩
theorem max_ok {pl : List Int} {m : Nat} (hne : pl ≠ []) (hr : ∀ k ∈ pl, 0 ≤ k ∧ k < (m : Int)) : ∃ x : Nat, maxD [.lst (I pl)] = some (.int (x : Int)) ∧ x < m ∧ ∀ k ∈ pl, 0 ≤ k ∧ k < ((x + 1 : Nat) : Int) := by
  cases h : pl.max? with
  | none => exact absurd (List.max?_eq_none_iff.mp h) hne
  | some x =>
    have hx := List.max?_eq_some_iff.mp h
    have hb := hr x hx.1
    refine ⟨x.toNat, ?_, by omega, fun k hk => ?_⟩
    · show (intsD (I pl)).bind (fun ns => ns.max?.map D.int) = _
      rw [show intsD (I pl) = some pl from intsD_of pl, Option.bind_some, h]
      show some (D.int x) = some (D.int (x.toNat : Int))
      rw [Int.toNat_of_nonneg hb.1]
    · have := hx.2 k hk
      have := hr k hk
      omega
theorem app_perm {ds os : List Int} (h : OrdP os) (hl : os.length = ds.length) : (app ds os).Perm ds := by
  have h1 : (app ds os).Perm (app ds (row os.length)) := h.map _
  rw [hl, app_row] at h1
  exact h1
theorem counts_perm {n : Nat} {as bs : List Int} (h : as.Perm bs) : counts n as = counts n bs := by
  unfold counts
  refine List.map_congr_left fun k _ => ?_
  rw [h.count_eq]
theorem Dk.app {n : Nat} {ds os : List Int} (hd : Dk n ds) (ho : OrdP os) (hl : os.length = ds.length) : Dk n (app ds os) := by
  have hp := app_perm ho hl
  exact ⟨by rw [hp.length_eq]; exact hd.1, fun k hk => hd.2 k (hp.mem_iff.mp hk)⟩
theorem counts_sm {n : Nat} {ds : List Int} (hn8 : n ≤ 8) (h60 : ds.length ≤ 60) : Sm (counts n ds) := ⟨by unfold counts; rw [List.length_map, List.length_range]; omega, fun k hk => by
  unfold counts at hk
  obtain ⟨j, _, rfl⟩ := List.mem_map.mp hk
  have := List.count_le_length (a := (j : Int)) (l := ds)
  omega⟩
theorem Dk.sm {n : Nat} {ds : List Int} (hn8 : n ≤ 8) (h : Dk n ds) : Sm ds := ⟨h.1, fun k hk => by have := h.2 k hk; omega⟩
theorem count_filter (ds : List Int) (k : Int) : ((ds.filter fun x => x == k).length : Int) = ((ds.count k : Nat) : Int) := by
  rw [List.count_eq_length_filter]
theorem mix_ok {c0 A B C M : Int} (h0 : 0 ≤ c0) (h1 : c0 < M) (hM : 0 < M) (ns : List Int) : 0 ≤ mixAll c0 A B C M ns ∧ mixAll c0 A B C M ns < M := by
  unfold mixAll
  rcases List.eq_nil_or_concat ns with e | ⟨l, z, e⟩
  · rw [e]; exact ⟨h0, h1⟩
  · rw [e, List.concat_eq_append, List.foldl_append]
    exact ⟨Int.emod_nonneg _ (by omega), Int.emod_lt_of_pos _ hM⟩
end GA.P

set_option Elab.async false
set_option linter.all false
set_option maxRecDepth 100000
set_option maxHeartbeats 2000000
namespace GA
open PySem PySem.Spec PyProof.Rows L2 GenW
section
variable {st : Sta} {s : S} {r : List Slot} {i : Nat} {x y z : D} {a : M D} {f : D → D → Option D} {c : M Bool} {b v : M Fl} {QF : Fl → Sta → Prop} {n : Nat}
theorem wps_while (J : Nat → Sta → Prop) (m : Nat) (hm : m < n) (h0 : J 0 st) (step : ∀ j s1, j < m → J j s1 → Wp c s1 fun k s2 => k = true ∧ Wp b s2 fun fl s3 => fl = .nx ∧ J (j + 1) s3)
    (fin : ∀ s1, J m s1 → Wp c s1 fun k s2 => k = false ∧ Wp v s2 QF) : Wp (seqM (whileN n c b) v) st QF := by
  refine wp_seq.mpr ?_
  have : ∀ (j n : Nat) (st : Sta), m - j < n → j ≤ m → J j st → Wp (whileN n c b) st fun fl s1 => match fl with | .nx => Wp v s1 QF | .rt d => QF (.rt d) s1 | .bk => QF .bk s1 | .ct => QF .ct s1 := by
    intro j n
    induction n generalizing j with
    | zero => intro st h; exact absurd h (Nat.not_lt_zero _)
    | succ n ih =>
      intro st hn hj h
      unfold whileN
      refine wp_bind.mpr ?_
      by_cases hjm : j < m
      · refine (step j st hjm h).mono fun k s2 ⟨e, h2⟩ => ?_
        subst e
        rw [if_pos rfl]
        refine wp_bind.mpr (h2.mono fun fl s3 ⟨e, h3⟩ => ?_)
        subst e
        exact ih (j + 1) s3 (by omega) hjm h3
      · have : j = m := by omega
        subst this
        refine (fin st h).mono fun k s2 ⟨e, h2⟩ => ?_
        subst e
        rw [if_neg (by decide)]
        exact wp_pure.mpr h2
  exact this 0 n st (by omega) (Nat.zero_le _) h0
theorem wpe_aug (h0 : r[i]? = some (.dat x)) (h : Ev a ⟨s, r⟩ y) (hf : f x y = some z) (q : Wp v ⟨s, r.set i (.dat z)⟩ QF) : Wp (seqM (augM i f a) v) ⟨s, r⟩ QF := by
  refine wp_seq.mpr ⟨.nx, ⟨s, r.set i (.dat z)⟩, ?_, q⟩
  unfold Ev at h
  unfold augM bindM
  rw [show (Sta.mk s r).r[i]? = _ from h0]
  simp only
  rw [h]
  simp only
  rw [hf]
  rfl
end
end GA
namespace GA.P
open PySem PySem.Spec PyProof.Rows L2 GenW HT
/-! where a kind's lot stands -/
def posT (t : Th) (k : Int) : Nat := t.findIdx fun p => decide (k ∈ p.1)
theorem IsTh.at {n : Nat} {t : Th} (h : IsTh n t) {k : Int} (h0 : 0 ≤ k) (h1 : k < n) : ∃ p, t[posT t k]? = some p ∧ k ∈ p.1 := by
  have hk : k ∈ kindsT t := h.all.mem_iff.mpr (mem_row.mpr ⟨h0, h1⟩)
  obtain ⟨p, hp, hkp⟩ := List.mem_flatMap.mp hk
  have hlt : posT t k < t.length := List.findIdx_lt_length_of_exists ⟨p, hp, decide_eq_true hkp⟩
  refine ⟨t[posT t k], List.getElem?_eq_getElem hlt, ?_⟩
  have := List.findIdx_getElem (xs := t) (p := fun p : List Int × Int => decide (k ∈ p.1)) (w := hlt)
  exact of_decide_eq_true this
theorem posT_min {t : Th} {k : Int} {j : Nat} {p : List Int × Int} (hj : j < posT t k) (hp : t[j]? = some p) : k ∉ p.1 := by
  intro hk
  have hlt := (List.getElem?_eq_some_iff.mp hp).1
  have := List.not_of_lt_findIdx hj
  rw [(List.getElem?_eq_some_iff.mp hp).2] at this
  simp [hk] at this
theorem posT_len {n : Nat} {t : Th} (h : IsTh n t) {k : Int} (h0 : 0 ≤ k) (h1 : k < n) : posT t k < t.length := by
  obtain ⟨p, hp, _⟩ := h.at h0 h1
  exact (List.getElem?_eq_some_iff.mp hp).1
theorem ix_TH {a b c : Bool} {t : Th} {j : Nat} {p : List Int × Int} (h : t[j]? = some p) : ixD (.tup c (TH a b t)) (.int (j : Nat)) = some (.tup a [.tup b (I p.1), .int p.2]) := by
  show L2.atI (TH a b t) (j : Nat) = _
  exact atI_nat (by unfold TH; rw [List.getElem?_map, h]; rfl)
theorem in_I {b : Bool} {k : Int} {l : List Int} : inD true (.int k) (.tup b (I l)) = some (.bl (!decide (k ∈ l))) := by
  show (intsD (I l)).map _ = _
  rw [show intsD (I l) = some l from intsD_of l]; rfl
theorem in_I' {b : Bool} {k : Int} {l : List Int} : inD false (.int k) (.tup b (I l)) = some (.bl (decide (k ∈ l))) := by
  show (intsD (I l)).map _ = _
  rw [show intsD (I l) = some l from intsD_of l]; rfl
theorem in_L' {k : Int} {l : List Int} : inD false (.int k) (.lst (I l)) = some (.bl (decide (k ∈ l))) := by
  show (intsD (I l)).map _ = _
  rw [show intsD (I l) = some l from intsD_of l]; rfl
theorem need_kind_ok {n k : Int} {s : S} (h : 0 ≤ k ∧ k ≤ n - 1) : r_need_kind [.int n, .int k] s = some (.non, s) := by
  refine run_evN rfl ?_
  unfold b_need_kind
  exact wpe_pass (ev_tNot (c := true) (ev_test (ev_call (ev_cons (ev_var rfl) (ev_cons (ev_var rfl) ev_nil)) (by rw [is_kind_ok, decide_eq_true h]) rfl))) (wp_pure.mpr ⟨rfl, rfl⟩)
theorem position_in_ok {n : Nat} {t : Th} {a b c : Bool} {k : Int} {s : S} (h : IsTh n t) (h0 : 0 ≤ k) (h1 : k < n) : r_position_in [.tup c (TH a b t), .int k] s = some (.int (posT t k : Nat), s) := by
  refine run_ev rfl ?_
  unfold b_position_in
  show Wp _ ⟨s, [.dat (.tup c (TH a b t)), .dat (.int k), .un]⟩ _
  have hl := posT_len h h0 h1
  have h8 := h.len
  refine wpe_set ev_pure (wps_while (fun j st => st = ⟨s, [.dat (.tup c (TH a b t)), .dat (.int k), .dat (.int (j : Nat))]⟩) (posT t k) (by omega) rfl ?_ ?_)
  · rintro j _ hj rfl
    have hjt : j < t.length := by omega
    have hp := List.getElem?_eq_getElem hjt
    refine (ev_test (ev_op2 (ev_var rfl) (ev_op2 (ev_op2 (ev_var rfl) (ev_var rfl) (ix_TH hp)) ev_pure rfl) in_I)).wp ⟨?_, ?_⟩
    · simpa using posT_min hj hp
    · exact wpe_aug rfl ev_pure rfl (wp_pure.mpr ⟨rfl, rfl⟩)
  · rintro _ rfl
    obtain ⟨p, hp, hk⟩ := h.at h0 h1
    refine (ev_test (ev_op2 (ev_var rfl) (ev_op2 (ev_op2 (ev_var rfl) (ev_var rfl) (ix_TH hp)) ev_pure rfl) in_I)).wp ⟨?_, ?_⟩
    · simpa using hk
    · exact wpe_ret (ev_var rfl) ⟨rfl, rfl⟩
/-- the way of two kinds -/
def signT (t : Th) (j : Nat) : Int := (t[j]?.map (·.2)).getD 1
def wayT (t : Th) (a b : Int) : Str := if posT t a < posT t b then "ahead" else if posT t b < posT t a then "behind" else if signT t (posT t a) = 1 then "kept" else "turned"
theorem way_of_ok {n : Nat} {t : Th} {a b c : Bool} {k l : Int} {s : S} (h : IsTh n t) (hk : 0 ≤ k ∧ k < n) (hl : 0 ≤ l ∧ l < n) : r_way_of [.tup c (TH a b t), .int k, .int l] s = some (.str (wayT t k l), s) := by
  refine run_ev rfl ?_
  unfold b_way_of
  show Wp _ ⟨s, [.dat (.tup c (TH a b t)), .dat (.int k), .dat (.int l), .un, .un, .un]⟩ _
  refine wpe_set (ev_call (ev_cons (ev_var rfl) ev_nil) (size_of_ok h) rfl) ?_
  refine wpe_drop (ev_call (ev_cons (ev_var rfl) (ev_cons (ev_var rfl) ev_nil)) (need_kind_ok (by omega)) rfl) ?_
  refine wpe_drop (ev_call (ev_cons (ev_var rfl) (ev_cons (ev_var rfl) ev_nil)) (need_kind_ok (by omega)) rfl) ?_
  refine wpe_set (ev_call (ev_cons (ev_var rfl) (ev_cons (ev_var rfl) ev_nil)) (position_in_ok h hk.1 hk.2) rfl) ?_
  refine wpe_set (ev_call (ev_cons (ev_var rfl) (ev_cons (ev_var rfl) ev_nil)) (position_in_ok h hl.1 hl.2) rfl) ?_
  obtain ⟨p, hp, _⟩ := h.at hk.1 hk.2
  refine wpe_if (ev_test (ev_op2 (ev_var rfl) (ev_var rfl) ltD_ii)) ?_
  unfold wayT
  by_cases c1 : posT t k < posT t l
  · rw [if_pos (decide_eq_true (by omega)), if_pos c1]
    exact wpe_ret ev_pure ⟨rfl, rfl⟩
  · rw [if_neg (by simpa using c1), if_neg c1]
    refine wpe_if (ev_test (ev_op2 (ev_var rfl) (ev_var rfl) gtD_ii)) ?_
    by_cases c2 : posT t l < posT t k
    · rw [if_pos (decide_eq_true (by omega)), if_pos c2]
      exact wpe_ret ev_pure ⟨rfl, rfl⟩
    · rw [if_neg (by simpa using c2), if_neg c2]
      refine wpe_ret (ev_ifM (ev_test (ev_op2 (ev_op2 (ev_op2 (ev_var rfl) (ev_var rfl) (ix_TH hp)) ev_pure rfl) ev_pure eqD_ii)) (fun _ => ev_pure) fun _ => ev_pure) ⟨?_, rfl⟩
      unfold signT
      rw [hp]
      by_cases c3 : p.2 = 1
      · simp [c3]
      · simp [c3]
theorem ev_tupRg' {st : Sta} {a : M D} {n : Nat} (h1 : Ev a st (.int (n : Nat))) (h : n ≤ 1000) : Ev (tupRgM a) st (.tup false (I (row n))) := ev_tupRg h1 (by rw [rgD_int h, rng_eq]; rfl)
theorem two_le : 2 ≤ sizeLine := by rw [sizeLine_eq]; omega
theorem one_le : 1 ≤ sizeLine := by rw [sizeLine_eq]; omega
theorem still_ok {n : Nat} {s : S} (h1 : 1 ≤ n) (h8 : n ≤ 8) : r_still [.int (n : Nat)] s = some (.tup false (TH false false [(row n, 1)]), s) := by
  refine run_ev rfl ?_
  unfold b_still
  refine wpe_drop (ev_call (ev_cons (ev_var rfl) ev_nil) (need_size_ok (by omega)) rfl) ?_
  exact wpe_ret (ev_tup (ev_cons (ev_tup (ev_cons (ev_tupRg' (ev_var rfl) (by omega)) (ev_cons ev_pure ev_nil)) two_le) ev_nil) one_le) ⟨rfl, rfl⟩
theorem turning_ok {n : Nat} {s : S} (h1 : 1 ≤ n) (h8 : n ≤ 8) : r_turning [.int (n : Nat)] s = some (.tup false (TH false false [(row n, -1)]), s) := by
  refine run_ev rfl ?_
  unfold b_turning
  refine wpe_drop (ev_call (ev_cons (ev_var rfl) ev_nil) (need_size_ok (by omega)) rfl) ?_
  exact wpe_ret (ev_tup (ev_cons (ev_tup (ev_cons (ev_tupRg' (ev_var rfl) (by omega)) (ev_cons ev_pure ev_nil)) two_le) ev_nil) one_le) ⟨rfl, rfl⟩
theorem isTh_one {n : Nat} {g : Int} (h1 : 1 ≤ n) (h8 : n ≤ 8) (hg : g = 1 ∨ g = -1) : IsTh n [(row n, g)] := by
  refine ⟨h1, h8, fun p hp => ?_, ?_⟩
  · rw [List.mem_singleton.mp hp]
    refine ⟨⟨fun e => ?_, ?_, fun k hk => ?_⟩, hg⟩
    · have := row_len n
      have e' : row n = [] := e
      rw [e'] at this
      simp at this
      omega
    · unfold row
      exact List.pairwise_map.mpr (List.pairwise_lt_range.imp fun h => by omega)
    · have := mem_row.mp hk
      omega
  · show ([row n].flatten).Perm _
    simp
/-- the kinds as they come out lie lot by lot -/
theorem lots_asc {ds : List Int} : ∀ {t : Th}, (kindsT t).Nodup → ((ordT t ds).map fun c => posT t (ds.getD c.toNat 0)).Pairwise (· ≤ ·)
  | [], _ => .nil
  | p :: t, nd => by
    have nd' : p.1.Nodup ∧ (kindsT t).Nodup ∧ ∀ x ∈ p.1, ∀ y ∈ kindsT t, x ≠ y := by
      have : (p.1 ++ kindsT t).Nodup := nd
      exact List.nodup_append.mp this
    have ih := lots_asc (ds := ds) nd'.2.1
    have h1 : ∀ c ∈ lotCards p.1 p.2 ds, posT (p :: t) (ds.getD c.toNat 0) = 0 := fun c hc => by
      have := (mem_places.mp (mem_lotCards.mp hc)).2.2
      unfold posT
      rw [List.findIdx_cons, decide_eq_true this]
      rfl
    have h2 : ∀ c ∈ ordT t ds, posT (p :: t) (ds.getD c.toNat 0) = posT t (ds.getD c.toNat 0) + 1 := fun c hc => by
      obtain ⟨q, hq, hcq⟩ := List.mem_flatMap.mp hc
      have := (mem_places.mp (mem_lotCards.mp hcq)).2.2
      have hn : ds.getD c.toNat 0 ∉ p.1 := fun hp => nd'.2.2 _ hp _ (List.mem_flatMap.mpr ⟨q, hq, this⟩) rfl
      unfold posT
      rw [List.findIdx_cons, decide_eq_false hn]
      rfl
    show ((lotCards p.1 p.2 ds ++ ordT t ds).map _).Pairwise _
    rw [List.map_append]
    refine List.pairwise_append.mpr ⟨?_, ?_, fun x hx y hy => ?_⟩
    · refine List.pairwise_map.mpr (List.pairwise_iff_forall_sublist.mpr fun {x y} hs => ?_)
      have hx : x ∈ lotCards p.1 p.2 ds := hs.subset (by simp)
      have hy : y ∈ lotCards p.1 p.2 ds := hs.subset (by simp)
      rw [h1 x hx, h1 y hy]
      exact Nat.le_refl _
    · rw [List.map_congr_left h2]
      refine List.pairwise_map.mpr ((List.pairwise_map.mp ih).imp fun h => by omega)
    · obtain ⟨c, hc, rfl⟩ := List.mem_map.mp hx
      rw [h1 c hc]
      exact Nat.zero_le _
theorem can_come_ok {n : Nat} {t : Th} {ds ns : List Int} {a b c e : Bool} {s : S} (h : IsTh n t) (hd : Dk n ns) (hs : (ns.map fun k => posT t k).Pairwise (· ≤ ·)) : r_can_come [.tup c (TH a b t), .tup e (I ns)] s = some (.bl true, s) := by
  refine run_ev rfl ?_
  unfold b_can_come
  show Wp _ ⟨s, [.dat (.tup c (TH a b t)), .dat (.tup e (I ns)), .un, .un]⟩ _
  have hn1 := h.n1
  have hn8 := h.n8
  refine wpe_drop (ev_call (ev_cons (ev_call (ev_cons (ev_var rfl) ev_nil) (size_of_ok h) rfl) (ev_cons (ev_var rfl) ev_nil)) (need_deck_ok (by omega) hd.1 hd.2) rfl) ?_
  have ek : Ev (compM (seqI (varM 1)) (tgN 3) (pureM true) (callM 2 r_position_in (consM (varM 0) (consM (varM 3) (pureM [])))) [3]) ⟨s, [.dat (.tup c (TH a b t)), .dat (.tup e (I ns)), .un, .un]⟩ (I (ns.map fun k => (posT t k : Int))) := by
    have := ev_map (s := s) (k := tgN 3) (te := callM 2 r_position_in (consM (varM 0) (consM (varM 3) (pureM [])))) (it := seqI (varM 1)) (vs := [3]) (ds := I ns) (r := [.dat (.tup c (TH a b t)), .dat (.tup e (I ns)), .un, .un]) (fun x => [.dat (.tup c (TH a b t)), .dat (.tup e (I ns)), .un, .dat x]) (fun x => match x with | .int k => .int (posT t k : Int) | x => x)
      (ev_seq (ev_var rfl) rfl) (by rw [lenI, sizeLine_eq]; have := hd.1; omega) rfl rfl (fun x _ => tg1) (fun x _ => rfl) (fun x hx => by
        obtain ⟨k, hk, rfl⟩ := List.mem_map.mp hx
        have := hd.2 k hk
        exact ev_call (ev_cons (ev_var rfl) (ev_cons (ev_var rfl) ev_nil)) (position_in_ok h this.1 (by omega)) rfl)
    rw [show (I ns).map _ = I (ns.map fun k => (posT t k : Int)) from by unfold I; rw [List.map_map, List.map_map]; rfl] at this
    exact this
  refine wpe_ownF ek (by simp) ?_
  have hl : (ns.map fun k => (posT t k : Int)).length ≤ 60 := by rw [List.length_map]; exact hd.1
  have hsrt : sortI (ns.map fun k => (posT t k : Int)) = ns.map fun k => (posT t k : Int) := by
    refine (sorted_one (List.Perm.refl _) ?_).symm
    exact List.pairwise_map.mpr ((List.pairwise_map.mp hs).imp fun h => by omega)
  have e1 : sortD [.lst (I (ns.map fun k => (posT t k : Int)))] = some (I (ns.map fun k => (posT t k : Int))) := by
    show (intsD (I (ns.map fun k => (posT t k : Int)))).bind (fun l => if l.length ≤ sizeLine then some ((sortI l).map D.int) else none) = _
    rw [show intsD (I (ns.map fun k => (posT t k : Int))) = some _ from intsD_of _, Option.bind_some, if_pos (by rw [sizeLine_eq]; omega), hsrt]
  exact wpe_ret (ev_op2 (ev_var rfl) (ev_ofL (ev_callL (ev_cons (ev_var rfl) ev_nil) e1)) (eqD_same _)) ⟨rfl, rfl⟩
end GA.P

set_option Elab.async false
set_option linter.all false
set_option maxRecDepth 100000
set_option maxHeartbeats 2000000
namespace GA.P
open PySem PySem.Spec PyProof.Rows L2 GenW HT
/-! where the cards come out -/
theorem idx_cons {a i : Int} {l : List Int} : (a :: l).idxOf i = if a = i then 0 else l.idxOf i + 1 := by
  rw [List.idxOf_cons]
  by_cases h : a = i
  · rw [if_pos h, h]; simp
  · rw [if_neg h]
    have : (a == i) = false := by simpa using h
    rw [this]; rfl
theorem idx_lt {R : Int → Int → Prop} (irr : ∀ a, ¬ R a a) (asym : ∀ a b, R a b → ¬ R b a) {i j : Int} : ∀ {l : List Int}, l.Pairwise R → i ∈ l → j ∈ l → R i j → l.idxOf i < l.idxOf j
  | [], _, hi, _, _ => by cases hi
  | a :: l, h, hi, hj, hij => by
    have hh := List.pairwise_cons.mp h
    rw [idx_cons, idx_cons]
    by_cases ha : a = i
    · subst ha
      rw [if_pos rfl, if_neg (fun e : a = j => irr a (by rw [← e] at hij; exact hij))]
      omega
    · rw [if_neg ha]
      have hi' : i ∈ l := (List.mem_cons.mp hi).resolve_left fun e => ha e.symm
      by_cases hb : a = j
      · subst hb
        exact absurd (hh.1 i hi') (asym _ _ hij)
      · rw [if_neg hb]
        have hj' : j ∈ l := (List.mem_cons.mp hj).resolve_left fun e => hb e.symm
        have := idx_lt irr asym hh.2 hi' hj' hij
        omega
theorem places_sorted (l ds : List Int) : (places l ds).Pairwise (· < ·) := by
  unfold places
  refine List.pairwise_map.mpr ?_
  refine List.Pairwise.filter _ ?_
  have : (ds.zipIdx.map (·.2)).Pairwise (· < ·) := by
    rw [List.zipIdx_map_snd]
    exact List.pairwise_lt_range'
  exact (List.pairwise_map.mp this).imp fun h => by omega
theorem idx_left {i : Int} : ∀ {a b : List Int}, i ∈ a → (a ++ b).idxOf i = a.idxOf i
  | [], _, h => by cases h
  | x :: a, b, h => by
    rw [List.cons_append, idx_cons, idx_cons]
    by_cases hx : x = i
    · rw [if_pos hx, if_pos hx]
    · rw [if_neg hx, if_neg hx, idx_left ((List.mem_cons.mp h).resolve_left fun e => hx e.symm)]
theorem idx_right {i : Int} : ∀ {a b : List Int}, i ∉ a → (a ++ b).idxOf i = a.length + b.idxOf i
  | [], b, _ => by simp
  | x :: a, b, h => by
    have hx : x ≠ i := fun e => h (e ▸ List.mem_cons_self)
    rw [List.cons_append, idx_cons, if_neg hx, idx_right fun e => h (List.mem_cons_of_mem _ e), List.length_cons]
    omega
theorem idx_len {i : Int} : ∀ {a : List Int}, i ∈ a → a.idxOf i < a.length
  | [], h => by cases h
  | x :: a, h => by
    rw [idx_cons, List.length_cons]
    by_cases hx : x = i
    · rw [if_pos hx]; omega
    · rw [if_neg hx]
      have := idx_len ((List.mem_cons.mp h).resolve_left fun e => hx e.symm)
      omega
def isFirst (w : Str) : Bool := decide (w ∈ [("ahead" : Str), "kept"])
theorem str_ne : ("behind" : Str) ≠ "ahead" ∧ ("behind" : Str) ≠ "kept" ∧ ("turned" : Str) ≠ "ahead" ∧ ("turned" : Str) ≠ "kept" := by decide
theorem first_a : isFirst "ahead" = true := by unfold isFirst; simp
theorem first_k : isFirst "kept" = true := by unfold isFirst; simp
theorem first_b : isFirst "behind" = false := by unfold isFirst; simp [str_ne]
theorem first_t : isFirst "turned" = false := by unfold isFirst; simp [str_ne]
theorem mem_ordT {ds : List Int} {t : Th} {c : Int} : c ∈ ordT t ds ↔ 0 ≤ c ∧ c < ds.length ∧ ds.getD c.toNat 0 ∈ kindsT t := by
  constructor
  · intro h
    obtain ⟨p, hp, hc⟩ := List.mem_flatMap.mp h
    have := mem_places.mp (mem_lotCards.mp hc)
    exact ⟨this.1, this.2.1, List.mem_flatMap.mpr ⟨p, hp, this.2.2⟩⟩
  · rintro ⟨h0, h1, h2⟩
    obtain ⟨p, hp, hc⟩ := List.mem_flatMap.mp h2
    exact List.mem_flatMap.mpr ⟨p, hp, mem_lotCards.mpr (mem_places.mpr ⟨h0, h1, hc⟩)⟩
/-- of two cards the one comes out ahead exactly if their kinds' way says so -/
theorem way_order {ds : List Int} {i j : Int} (h0 : 0 ≤ i) (hij : i < j) (hj : j < ds.length) : ∀ {t : Th}, (kindsT t).Nodup → (∀ p ∈ t, p.2 = 1 ∨ p.2 = -1) → ds.getD i.toNat 0 ∈ kindsT t → ds.getD j.toNat 0 ∈ kindsT t →
    decide ((ordT t ds).idxOf i < (ordT t ds).idxOf j) = isFirst (wayT t (ds.getD i.toNat 0) (ds.getD j.toNat 0))
  | [], _, _, h, _ => by cases h
  | p :: t, nd, sg, hki, hkj => by
    have nd' : p.1.Nodup ∧ (kindsT t).Nodup ∧ ∀ x ∈ p.1, ∀ y ∈ kindsT t, x ≠ y := by
      have : (p.1 ++ kindsT t).Nodup := nd
      exact List.nodup_append.mp this
    have hL : ∀ c : Int, 0 ≤ c → c < ds.length → (c ∈ lotCards p.1 p.2 ds ↔ ds.getD c.toNat 0 ∈ p.1) := fun c c0 c1 =>
      ⟨fun h => (mem_places.mp (mem_lotCards.mp h)).2.2, fun h => mem_lotCards.mpr (mem_places.mpr ⟨c0, c1, h⟩)⟩
    have pz : ∀ k : Int, k ∈ p.1 → posT (p :: t) k = 0 := fun k hk => by unfold posT; rw [List.findIdx_cons, decide_eq_true hk]; rfl
    have ps : ∀ k : Int, k ∉ p.1 → posT (p :: t) k = posT t k + 1 := fun k hk => by unfold posT; rw [List.findIdx_cons, decide_eq_false hk]; rfl
    have Li := hL i h0 (by omega)
    have Lj := hL j (by omega) hj
    show decide ((lotCards p.1 p.2 ds ++ ordT t ds).idxOf i < (lotCards p.1 p.2 ds ++ ordT t ds).idxOf j) = _
    by_cases ci : ds.getD i.toNat 0 ∈ p.1
    · by_cases cj : ds.getD j.toNat 0 ∈ p.1
      · rw [idx_left (Li.mpr ci), idx_left (Lj.mpr cj)]
        unfold wayT
        rw [pz _ ci, pz _ cj, if_neg (Nat.lt_irrefl 0), if_neg (Nat.lt_irrefl 0)]
        have hi' := mem_lotCards.mp (Li.mpr ci)
        have hj' := mem_lotCards.mp (Lj.mpr cj)
        show _ = isFirst (if p.2 = 1 then _ else _)
        unfold lotCards
        by_cases hg : p.2 = 1
        · rw [if_pos hg, if_pos hg, first_k]
          exact decide_eq_true (idx_lt (R := (· < ·)) (fun a => by omega) (fun a b h => by omega) (places_sorted _ _) hi' hj' hij)
        · rw [if_neg hg, if_neg hg, first_t]
          have := idx_lt (R := (· > ·)) (fun a => by omega) (fun a b h => by omega) (List.pairwise_reverse.mpr (places_sorted p.1 ds)) (List.mem_reverse.mpr hj') (List.mem_reverse.mpr hi') hij
          exact decide_eq_false (by omega)
      · rw [idx_left (Li.mpr ci), idx_right fun h => cj (Lj.mp h)]
        have := idx_len (Li.mpr ci)
        unfold wayT
        rw [pz _ ci, ps _ cj, if_pos (by omega), first_a]
        exact decide_eq_true (by omega)
    · by_cases cj : ds.getD j.toNat 0 ∈ p.1
      · rw [idx_right fun h => ci (Li.mp h), idx_left (Lj.mpr cj)]
        have := idx_len (Lj.mpr cj)
        unfold wayT
        rw [ps _ ci, pz _ cj, if_neg (by omega), if_pos (by omega), first_b]
        exact decide_eq_false (by omega)
      · rw [idx_right fun h => ci (Li.mp h), idx_right fun h => cj (Lj.mp h)]
        have ki : ds.getD i.toNat 0 ∈ kindsT t := (List.mem_append.mp (show _ ∈ p.1 ++ kindsT t from hki)).resolve_left ci
        have kj : ds.getD j.toNat 0 ∈ kindsT t := (List.mem_append.mp (show _ ∈ p.1 ++ kindsT t from hkj)).resolve_left cj
        have ih := way_order h0 hij hj nd'.2.1 (fun q hq => sg q (List.mem_cons_of_mem _ hq)) ki kj
        have hw : wayT (p :: t) (ds.getD i.toNat 0) (ds.getD j.toNat 0) = wayT t (ds.getD i.toNat 0) (ds.getD j.toNat 0) := by
          unfold wayT
          rw [ps _ ci, ps _ cj]
          have : signT (p :: t) (posT t (ds.getD i.toNat 0) + 1) = signT t (posT t (ds.getD i.toNat 0)) := rfl
          rw [this]
          simp only [Nat.add_lt_add_iff_right]
        rw [hw, ← ih]
        refine decide_eq_decide.mpr ?_
        omega
/-! a part of the cards, more cards -/
theorem flatMap_same {α β : Type} {f g : α → List β} : ∀ {l : List α}, (∀ x ∈ l, f x = g x) → l.flatMap f = l.flatMap g
  | [], _ => rfl
  | a :: l, h => by rw [List.flatMap_cons, List.flatMap_cons, h a List.mem_cons_self, flatMap_same fun x hx => h x (List.mem_cons_of_mem _ hx)]
theorem sorted_ext {a b : List Int} (ha : a.Pairwise (· < ·)) (hb : b.Pairwise (· < ·)) (h : ∀ x, x ∈ a ↔ x ∈ b) : a = b := by
  have hp : a.Perm b := (List.perm_ext_iff_of_nodup (ha.imp fun h => by omega) (hb.imp fun h => by omega)).mpr h
  exact List.Perm.eq_of_pairwise (fun a b _ _ h1 h2 => by omega) ha hb hp
theorem idx_at : ∀ {l : List Int} {j : Nat} {x : Int}, l.Nodup → l[j]? = some x → l.idxOf x = j
  | [], _, _, _, h => by simp at h
  | a :: l, 0, x, _, h => by
    have : a = x := by simpa using h
    rw [idx_cons, if_pos this]
  | a :: l, j + 1, x, nd, h => by
    have h' : l[j]? = some x := by simpa using h
    have nd' := List.nodup_cons.mp nd
    have : a ≠ x := fun e => nd'.1 (e ▸ List.mem_of_getElem? h')
    rw [idx_cons, if_neg this, idx_at nd'.2 h']
/-- the cards sm of the deck ds, as a deck -/
def partD (ds sm : List Int) : List Int := sm.map fun c => ds.getD c.toNat 0
theorem places_part {l ds sm : List Int} (hs : sm.Pairwise (· < ·)) (hr : ∀ c ∈ sm, 0 ≤ c ∧ c < ds.length) : places l (partD ds sm) = ((places l ds).filter fun c => decide (c ∈ sm)).map fun c => ((sm.idxOf c : Nat) : Int) := by
  have e1 : ((places l ds).filter fun c => decide (c ∈ sm)) = sm.filter fun c => decide (ds.getD c.toNat 0 ∈ l) := by
    refine sorted_ext ((places_sorted l ds).filter _) (hs.filter _) fun x => ?_
    rw [List.mem_filter, List.mem_filter, mem_places]
    constructor
    · rintro ⟨h1, h2⟩
      exact ⟨of_decide_eq_true h2, decide_eq_true h1.2.2⟩
    · rintro ⟨h1, h2⟩
      have := hr x h1
      exact ⟨⟨this.1, this.2, of_decide_eq_true h2⟩, decide_eq_true h1⟩
  rw [e1]
  have e2 : (sm.filter fun c => decide (ds.getD c.toNat 0 ∈ l)) = (sm.zipIdx.filter fun p => decide (ds.getD p.1.toNat 0 ∈ l)).map (·.1) := by
    have h : sm = sm.zipIdx.map (·.1) := by rw [List.zipIdx_map_fst]
    conv => lhs; rw [h]
    rw [List.filter_map]
    rfl
  rw [e2, List.map_map]
  unfold places partD
  rw [List.zipIdx_map, List.filter_map, List.map_map]
  refine List.map_congr_left fun p hp => ?_
  have h1 := List.mem_zipIdx_iff_getElem?.mp (List.mem_filter.mp hp).1
  have := idx_at (hs.imp fun h => by omega) h1
  show ((p.2 : Nat) : Int) = ((sm.idxOf p.1 : Nat) : Int)
  rw [this]
theorem ordT_part {ds sm : List Int} (hs : sm.Pairwise (· < ·)) (hr : ∀ c ∈ sm, 0 ≤ c ∧ c < ds.length) (t : Th) : ordT t (partD ds sm) = ((ordT t ds).filter fun c => decide (c ∈ sm)).map fun c => ((sm.idxOf c : Nat) : Int) := by
  unfold ordT
  rw [List.filter_flatMap, List.map_flatMap]
  refine flatMap_same fun p hp => ?_
  unfold lotCards
  rw [places_part hs hr]
  split
  · rfl
  · rw [List.filter_reverse, List.map_reverse]
theorem places_more {l ds es : List Int} : ((places l (ds ++ es)).filter fun c => decide (c < (ds.length : Int))) = places l ds := by
  refine sorted_ext ((places_sorted l _).filter _) (places_sorted l ds) fun x => ?_
  rw [List.mem_filter, mem_places, mem_places]
  constructor
  · rintro ⟨⟨h1, h2, h3⟩, h4⟩
    have h4 := of_decide_eq_true h4
    refine ⟨h1, h4, ?_⟩
    rwa [List.getD_eq_getElem?_getD, List.getElem?_append_left (by omega), ← List.getD_eq_getElem?_getD] at h3
  · rintro ⟨h1, h2, h3⟩
    refine ⟨⟨h1, by rw [List.length_append]; omega, ?_⟩, decide_eq_true h2⟩
    rwa [List.getD_eq_getElem?_getD, List.getElem?_append_left (by omega), ← List.getD_eq_getElem?_getD]
theorem ordT_more {ds es : List Int} (t : Th) : ((ordT t (ds ++ es)).filter fun c => decide (c < (ds.length : Int))) = ordT t ds := by
  unfold ordT
  rw [List.filter_flatMap]
  refine flatMap_same fun p hp => ?_
  unfold lotCards
  split
  · exact places_more
  · rw [List.filter_reverse, places_more]
/-! done twice -/
def plainT (t : Th) (ds : List Int) : List Int := t.flatMap fun p => places p.1 ds
theorem app_places {l ds os : List Int} : app os (places l (app ds os)) = os.filter fun c => decide (ds.getD c.toNat 0 ∈ l) := by
  have e2 : (os.filter fun c => decide (ds.getD c.toNat 0 ∈ l)) = (os.zipIdx.filter fun p => decide (ds.getD p.1.toNat 0 ∈ l)).map (·.1) := by
    have h : os = os.zipIdx.map (·.1) := by rw [List.zipIdx_map_fst]
    conv => lhs; rw [h]
    rw [List.filter_map]
    rfl
  rw [e2]
  unfold places app
  rw [List.zipIdx_map, List.filter_map, List.map_map, List.map_map]
  refine List.map_congr_left fun p hp => ?_
  have h1 := List.mem_zipIdx_iff_getElem?.mp (List.mem_filter.mp hp).1
  show os.getD ((p.2 : Nat) : Int).toNat 0 = p.1
  rw [Int.toNat_natCast, List.getD_eq_getElem?_getD, h1]
  rfl
theorem filter_lot {ds : List Int} : ∀ {t : Th}, (kindsT t).Nodup → ∀ p ∈ t, ((ordT t ds).filter fun c => decide (ds.getD c.toNat 0 ∈ p.1)) = lotCards p.1 p.2 ds
  | [], _, p, hp => by cases hp
  | q :: t, nd, p, hp => by
    have nd' : q.1.Nodup ∧ (kindsT t).Nodup ∧ ∀ x ∈ q.1, ∀ y ∈ kindsT t, x ≠ y := by
      have : (q.1 ++ kindsT t).Nodup := nd
      exact List.nodup_append.mp this
    show List.filter _ (lotCards q.1 q.2 ds ++ ordT t ds) = _
    rw [List.filter_append]
    rcases List.mem_cons.mp hp with rfl | hp
    · have h1 : (lotCards p.1 p.2 ds).filter (fun c => decide (ds.getD c.toNat 0 ∈ p.1)) = lotCards p.1 p.2 ds := List.filter_eq_self.mpr fun c hc => decide_eq_true (mem_places.mp (mem_lotCards.mp hc)).2.2
      have h2 : (ordT t ds).filter (fun c => decide (ds.getD c.toNat 0 ∈ p.1)) = [] := List.filter_eq_nil_iff.mpr fun c hc => by
        have := (mem_ordT.mp hc).2.2
        simp only [decide_eq_true_eq]
        exact fun h => nd'.2.2 _ h _ this rfl
      rw [h1, h2, List.append_nil]
    · have h1 : (lotCards q.1 q.2 ds).filter (fun c => decide (ds.getD c.toNat 0 ∈ p.1)) = [] := List.filter_eq_nil_iff.mpr fun c hc => by
        have := (mem_places.mp (mem_lotCards.mp hc)).2.2
        simp only [decide_eq_true_eq]
        exact fun h => nd'.2.2 _ this _ (List.mem_flatMap.mpr ⟨p, hp, h⟩) rfl
      rw [h1, List.nil_append]
      exact filter_lot nd'.2.1 p hp
theorem twice_ok {n : Nat} {t : Th} {ds : List Int} (h : IsTh n t) : app (ordT t ds) (ordT t (app ds (ordT t ds))) = plainT t ds := by
  have e : ∀ os : List Int, app os (ordT t (app ds (ordT t ds))) = t.flatMap fun p => app os (lotCards p.1 p.2 (app ds (ordT t ds))) := fun os => by
    show (t.flatMap fun p => lotCards p.1 p.2 (app ds (ordT t ds))).map _ = _
    rw [List.map_flatMap]
    rfl
  rw [e]
  unfold plainT
  refine flatMap_same fun p hp => ?_
  have h1 : app (ordT t ds) (places p.1 (app ds (ordT t ds))) = lotCards p.1 p.2 ds := by rw [app_places, filter_lot h.ord.nodup p hp]
  conv => lhs; unfold lotCards
  by_cases hg : p.2 = 1
  · rw [if_pos hg, h1]
    unfold lotCards
    rw [if_pos hg]
  · rw [if_neg hg]
    have : app (ordT t ds) (places p.1 (app ds (ordT t ds))).reverse = (app (ordT t ds) (places p.1 (app ds (ordT t ds)))).reverse := by unfold app; rw [List.map_reverse]
    rw [this, h1]
    unfold lotCards
    rw [if_neg hg, List.reverse_reverse]
theorem ordT_one {ds : List Int} {n : Nat} {g : Int} (hd : ∀ k ∈ ds, 0 ≤ k ∧ k ≤ (n : Int) - 1) : ordT [(row n, g)] ds = if g = 1 then row ds.length else (row ds.length).reverse := by
  have hp : places (row n) ds = row ds.length := by
    refine sorted_ext (places_sorted _ _) ?_ fun x => ?_
    · unfold row
      exact List.pairwise_map.mpr (List.pairwise_lt_range.imp fun h => by omega)
    · rw [mem_places]
      constructor
      · exact fun h => mem_row.mpr ⟨h.1, h.2.1⟩
      · intro h
        have h := mem_row.mp h
        have h1 := hd _ (getD_mem (os := ds) (j := x.toNat) (by omega))
        exact ⟨h.1, h.2, mem_row.mpr (by omega)⟩
  show lotCards (row n) g ds ++ [] = _
  rw [List.append_nil]
  unfold lotCards
  rw [hp]
/-! a dict made of pairs -/
theorem merge_other {k : Key} : ∀ {l : List (Key × D)} {kvs : List (Key × D)}, (∀ p ∈ l, p.1 ≠ k) → getP (mergeP kvs l) k = getP kvs k
  | [], _, _ => rfl
  | p :: l, kvs, h => by
    show getP (mergeP (putP kvs p.1 p.2) l) k = _
    rw [merge_other fun q hq => h q (List.mem_cons_of_mem _ hq), getP_put, if_neg (h p List.mem_cons_self)]
theorem merge_mem {k : Key} {d : D} : ∀ {l : List (Key × D)} {kvs : List (Key × D)}, (l.map (·.1)).Nodup → (k, d) ∈ l → getP (mergeP kvs l) k = some d
  | [], _, _, h => by cases h
  | p :: l, kvs, nd, h => by
    have nd' := List.nodup_cons.mp (show (p.1 :: l.map (·.1)).Nodup from nd)
    show getP (mergeP (putP kvs p.1 p.2) l) k = _
    rcases List.mem_cons.mp h with e | h
    · subst e
      rw [merge_other (fun q hq e => nd'.1 (by rw [← e]; exact List.mem_map.mpr ⟨q, hq, rfl⟩)), getP_put, if_pos rfl]
    · exact merge_mem nd'.2 h
end GA.P

set_option Elab.async false
set_option linter.all false
set_option maxRecDepth 100000
set_option maxHeartbeats 2000000
namespace GA.P
open PySem PySem.Spec PyProof.Rows L2 GenW HT
theorem enum_T {a b : Bool} (t : Th) : enumL (TH a b t) = t.zipIdx.map fun p => .tup false [.int (p.2 : Nat), .tup a [.tup b (I p.1.1), .int p.1.2]] := by
  unfold enumL TH
  rw [List.zipIdx_map, List.map_map]
  rfl
/-- the places of the lots that have a kind -/
def spotsT (t : Th) (k : Int) : List Int := (t.zipIdx.filter fun p => decide (k ∈ p.1.1)).map fun p => ((p.2 : Nat) : Int)
theorem spots_comp {a b : Bool} (t : Th) (k : Int) : ((enumL (TH a b t)).filter fun x => (match x with | .tup _ [_, .tup _ [.tup _ l, _]] => (match intsD l with | some ns => decide (k ∈ ns) | none => false) | _ => false)).map (fun x => (match x with | .tup _ [u, _] => u | _ => .non : D)) = I (spotsT t k) := by
  rw [enum_T, List.filter_map, List.map_map]
  unfold spotsT I
  rw [List.map_map]
  have : ((fun x : D => (match x with | .tup _ [_, .tup _ [.tup _ l, _]] => (match intsD l with | some ns => decide (k ∈ ns) | none => false) | _ => false)) ∘ fun p : (List Int × Int) × Nat => D.tup false [.int (p.2 : Nat), .tup a [.tup b (I p.1.1), .int p.1.2]]) = fun p => decide (k ∈ p.1.1) := by
    funext p
    show (match intsD (I p.1.1) with | some ns => decide (k ∈ ns) | none => false) = _
    rw [show intsD (I p.1.1) = some p.1.1 from intsD_of _]
  rw [this]
  rfl
theorem spots_len (t : Th) (k : Int) : (spotsT t k).length ≤ t.length := by
  unfold spotsT
  rw [List.length_map]
  exact Nat.le_trans (List.length_filter_le _ _) (by rw [List.length_zipIdx]; exact Nat.le_refl _)
theorem spots_from {k : Int} : ∀ {t : Th} {m : Nat}, (∃ p ∈ t, k ∈ p.1) → ((t.zipIdx m).filter fun p => decide (k ∈ p.1.1)).head?.map (·.2) = some (m + posT t k)
  | [], _, h => by obtain ⟨p, hp, _⟩ := h; cases hp
  | p :: t, m, h => by
    rw [List.zipIdx_cons]
    unfold posT
    rw [List.findIdx_cons]
    by_cases hk : k ∈ p.1
    · rw [List.filter_cons_of_pos (by simpa using hk), decide_eq_true hk]
      rfl
    · rw [List.filter_cons_of_neg (by simpa using hk), decide_eq_false hk]
      have h' : ∃ p ∈ t, k ∈ p.1 := by
        obtain ⟨q, hq, hkq⟩ := h
        rcases List.mem_cons.mp hq with e | hq
        · exact absurd (e ▸ hkq) hk
        · exact ⟨q, hq, hkq⟩
      rw [spots_from h']
      show some (m + 1 + posT t k) = some (m + (posT t k + 1))
      congr 1
      omega
theorem spots_head {n : Nat} {t : Th} (h : IsTh n t) {k : Int} (h0 : 0 ≤ k) (h1 : k < n) : L2.atI (I (spotsT t k)) 0 = some (.int (posT t k : Nat)) := by
  obtain ⟨p, hp, hk⟩ := h.at h0 h1
  have := spots_from (m := 0) ⟨p, List.mem_of_getElem? hp, hk⟩
  rw [Nat.zero_add] at this
  refine atI_nat (j := 0) ?_
  unfold I spotsT
  rw [← List.head?_eq_getElem?, List.head?_map, List.head?_map]
  cases hq : (t.zipIdx.filter fun p => decide (k ∈ p.1.1)).head? with
  | none => rw [hq] at this; cases this
  | some q =>
    rw [hq] at this
    have : q.2 = posT t k := by simpa using this
    show some (D.int ((q.2 : Nat) : Int)) = _
    rw [this]
theorem neD_ss {x y : Str} : neD (.str x) (.str y) = some (.bl (!decide (x = y))) := rfl
theorem eqD_ss {x y : Str} : eqD (.str x) (.str y) = some (.bl (decide (x = y))) := rfl
theorem neD_bb {x y : Bool} : neD (.bl x) (.bl y) = some (.bl (!(x == y))) := by cases x <;> cases y <;> rfl
theorem eqD_bb {x y : Bool} : eqD (.bl x) (.bl y) = some (.bl (x == y)) := by cases x <;> cases y <;> rfl
theorem rep3 {x : D} {b : Bool} : mulD (.tup b [x]) (.int 3) = some (.tup false [x, x, x]) := by
  show repTD (.tup b [x]) (.int 3) = _
  unfold repTD
  simp only
  rw [if_pos ⟨by simp, by omega, by omega, by simp⟩]
  rfl
theorem catT_ok {b c : Bool} {xs ys : List Int} (h : xs.length + ys.length ≤ 100000) : ∃ d, addD (.tup b (I xs)) (.tup c (I ys)) = some (.tup d (I (xs ++ ys))) := by
  show ∃ d, (if (I xs).length + (I ys).length ≤ sizeLine then (if I xs = [] then some (.tup c (I ys)) else if I ys = [] then some (.tup b (I xs)) else some (.tup false (I xs ++ I ys))) else none) = some (D.tup d (I (xs ++ ys)))
  rw [if_pos (by rw [lenI, lenI, sizeLine_eq]; omega)]
  by_cases h1 : I xs = []
  · have : xs = [] := by simpa using h1
    subst this
    exact ⟨c, by rw [if_pos h1]; rfl⟩
  · rw [if_neg h1]
    by_cases h2 : I ys = []
    · have : ys = [] := by simpa using h2
      subst this
      exact ⟨b, by rw [if_pos h2, List.append_nil]⟩
    · rw [if_neg h2]
      exact ⟨false, by unfold I; rw [List.map_append]⟩
theorem three_le : 3 ≤ sizeLine := by rw [sizeLine_eq]; omega
theorem shows_bool {b : Bool} : Shows (.bool b) 0 5 := ⟨rfl, rfl, Nat.le_refl _, by cases b <;> decide⟩
theorem Shows.mono {d : PyData} {a b m k : Nat} (h : Shows d a m) (ha : a ≤ b) (hm : m ≤ k) : Shows d b k := ⟨h.sh, h.nd, Nat.le_trans h.dp ha, Nat.le_trans h.ln hm⟩
end GA.P

set_option Elab.async false
set_option linter.all false
set_option maxRecDepth 100000
set_option maxHeartbeats 2000000
namespace GA.k06
open PySem PySem.Spec PyProof.Rows L2 GenW HT GA.P
def drawTail : M Fl := seqM (asgM (op2M modD (callD intD (consM (op2M addD (op2M mulD (varM 2) (pureM (.int 48271))) (pureM (.int 65))) (pureM []))) (pureM (.int 2147483579))) (tgN 2)) (
    seqM (asgM (op2M modD (callD intD (consM (op2M addD (op2M addD (op2M mulD (varM 2) (varM 2)) (op2M mulD (pureM (.int 47123)) (drawsM 0))) (pureM (.int 77))) (pureM []))) (pureM (.int 2147483587))) (tgN 2)) (
    seqM (asgM (op2M modD (callD intD (consM (op2M mulD (varM 2) (pureM (.int 39373))) (pureM []))) (pureM (.int 2147483399))) (tgN 2)) (
    seqM (retM (op2M modD (callD intD (consM (op2M fdivD (varM 2) (pureM (.int 64))) (pureM []))) (varM 1))) (
    pureM .nx))))
theorem drawTail_ok {s : S} {n q : Int} {x : Slot} {Q : D → S → Prop} (hn : 0 < n) (hn2 : n ≤ 1000) (q0 : 0 ≤ q) (q1 : q < 2 ^ 60) (d0 : 0 ≤ s.draws) (d1 : s.draws < 2 ^ 60) (h : ∀ k, 0 ≤ k → k < n → Q (.int k) s) :
    Wp drawTail ⟨s, [.dat (.raw (.ref s.dk)), .dat (.int n), .dat (.int q), x]⟩ fun fl st' => match fl with | .rt d => Q d st'.s | .nx => Q .non st'.s | _ => False := by
  unfold drawTail
  rw [wp_seq, wp_asg, wp_op2, wp_callD, wp_cons, wp_op2, wp_op2, wp_var rfl, wp_pure]
  refine ⟨_, mul_ok q0 (by omega) (by decide) (by decide), ?_⟩
  rw [wp_pure]
  refine ⟨_, rfl, ?_⟩
  rw [wp_pure]
  refine ⟨_, rfl, ?_⟩
  rw [wp_pure]
  refine ⟨_, mod_ok (by decide), ?_⟩
  rw [wp_tgN]
  generalize hr : (q * 48271 + 65) % 2147483579 = r
  have r0 : 0 ≤ r ∧ r < 2147483579 := by rw [← hr]; exact ⟨Int.emod_nonneg _ (by decide), Int.emod_lt_of_pos _ (by decide)⟩
  show Wp _ _ _
  rw [wp_seq, wp_asg, wp_op2, wp_callD, wp_cons, wp_op2, wp_op2, wp_op2, wp_var rfl, wp_var rfl]
  refine ⟨_, mul_ok r0.1 (by omega) r0.1 (by omega), ?_⟩
  rw [wp_op2, wp_pure, wp_draws rfl]
  refine ⟨_, mul_ok (by decide) (by decide) d0 (show s.draws < 2 ^ 200 by omega), _, rfl, ?_⟩
  rw [wp_pure]
  refine ⟨_, rfl, ?_⟩
  rw [wp_pure]
  refine ⟨_, rfl, ?_⟩
  rw [wp_pure]
  refine ⟨_, mod_ok (by decide), ?_⟩
  rw [wp_tgN]
  generalize ht : (r * r + 47123 * s.draws + 77) % 2147483587 = t
  have t0 : 0 ≤ t ∧ t < 2147483587 := by rw [← ht]; exact ⟨Int.emod_nonneg _ (by decide), Int.emod_lt_of_pos _ (by decide)⟩
  show Wp _ _ _
  rw [wp_seq, wp_asg, wp_op2, wp_callD, wp_cons, wp_op2, wp_var rfl, wp_pure]
  refine ⟨_, mul_ok t0.1 (by omega) (by decide) (by decide), ?_⟩
  rw [wp_pure]
  refine ⟨_, rfl, ?_⟩
  rw [wp_pure]
  refine ⟨_, mod_ok (by decide), ?_⟩
  rw [wp_tgN]
  generalize hu : (t * 39373) % 2147483399 = u
  show Wp _ _ _
  rw [wp_seq, wp_ret, wp_op2, wp_callD, wp_cons, wp_op2, wp_var rfl, wp_pure]
  refine ⟨_, fdiv_ok (by decide) (by decide), ?_⟩
  rw [wp_pure]
  refine ⟨_, rfl, ?_⟩
  rw [wp_var rfl]
  exact ⟨_, mod_ok hn, h _ (Int.emod_nonneg _ (by omega)) (Int.emod_lt_of_pos _ hn)⟩
theorem draw_ok {s : S} {n : Int} (hn : 0 < n) (hn2 : n ≤ 1000) (g : Good 1 s) : ∃ k s', r_Llaw_draw [.raw (.ref s.dk), .int n] s = some (.int k, s') ∧ 0 ≤ k ∧ k < n ∧ Adv 1 s s' := by
  have := run_of (n := 4) (np := 2) (body := b_Llaw_draw) (ds := [.raw (.ref s.dk), .int n]) (s := s) (Q := fun d s' => ∃ k, d = .int k ∧ 0 ≤ k ∧ k < n ∧ Adv 1 s s') rfl ?_
  · obtain ⟨d, s', e, k, rfl, h⟩ := this
    exact ⟨k, s', e, h⟩
  obtain ⟨g1, g2, g3, g4, g5⟩ := g
  have adv : ∀ l : List Int, l.length ≤ s.cells.length → Adv 1 s ⟨s.dk, l, s.mixed, s.draws + 1⟩ := fun l hl => ⟨rfl, fun j gj => ⟨by have := gj.d0; show 0 ≤ s.draws + 1; omega, by have := gj.d1; show s.draws + 1 + j ≤ _; push_cast at this ⊢; omega, gj.m0, gj.m1, Nat.le_trans hl gj.c⟩⟩
  show Wp b_Llaw_draw ⟨s, [.dat (.raw (.ref s.dk)), .dat (.int n), .un, .un]⟩ _
  unfold b_Llaw_draw
  rw [wp_seq, wp_asg, wp_op2, wp_draws rfl, wp_pure]
  refine ⟨_, rfl, ?_⟩
  rw [wp_drawsG rfl]
  have hd : (0:Int) ≤ s.draws + 1 ∧ s.draws + 1 < 2 ^ 200 := ⟨by omega, by omega⟩
  show Wp _ _ _
  rw [wp_seq, wp_asg, wp_op2, wp_mixed rfl, wp_op2, wp_pure, wp_draws rfl]
  refine ⟨_, mul_ok (by decide) (by decide) hd.1 hd.2, _, rfl, ?_⟩
  rw [wp_tgN]
  show Wp _ _ _
  generalize hq : s.mixed + 58321 * (s.draws + 1) = q
  have q0 : 0 ≤ q ∧ q < 2 ^ 50 := by omega
  rw [wp_seq, wp_ifS, wp_cells rfl]
  rcases List.eq_nil_or_concat s.cells with e | ⟨l, c, e⟩
  · show if (!s.cells.isEmpty) = true then _ else _
    rw [if_neg (by rw [e]; decide), wp_pure]
    show Wp drawTail _ _
    exact drawTail_ok (Q := fun d s' => ∃ k, d = .int k ∧ 0 ≤ k ∧ k < n ∧ Adv 1 s s') (s := ⟨s.dk, s.cells, s.mixed, s.draws + 1⟩) hn hn2 q0.1 (by omega) hd.1 (by show s.draws + 1 < _; omega) fun k k0 k1 => ⟨k, rfl, k0, k1, adv _ (Nat.le_refl _)⟩
  · rw [List.concat_eq_append] at e
    have hl : l.length + 1 ≤ s.cells.length := by rw [e]; simp
    show if (!s.cells.isEmpty) = true then _ else _
    rw [if_pos (by rw [e]; simp), wp_seq, wp_asg]
    refine (wp_cellsPop (s := ⟨s.dk, s.cells, s.mixed, s.draws + 1⟩) rfl (show s.cells = l ++ [c] from e)).mpr ?_
    rw [wp_tgN]
    show Wp _ _ _
    rw [wp_seq, wp_ifS, wp_test, wp_op2, wp_var rfl, wp_op2, wp_pure, wp_pure]
    refine ⟨_, rfl, _, rfl, _, rfl, ?_⟩
    by_cases hc : decide ((10 : Int) ^ (18 : Int).toNat ≤ c) = true
    · rw [if_pos hc, wp_seq, wp_drop]
      refine wp_of (a := .non) (st' := ⟨⟨s.dk, l ++ [c / (if n > 2 then n else 2)], s.mixed, s.draws + 1⟩, [.dat (.raw (.ref s.dk)), .dat (.int n), .dat (.int q), .dat (.int c)]⟩) ?_ ?_
      · have hm : (0 : Int) < (if n > 2 then n else 2) ∧ (if n > 2 then n else 2) < 2 ^ 200 := by split <;> omega
        have e1 : (op2M fdivD (varM 3) (callD max2D (consM (pureM (.int 2)) (consM (varM 1) (pureM []))))) ⟨⟨s.dk, l, s.mixed, s.draws + 1⟩, [.dat (.raw (.ref s.dk)), .dat (.int n), .dat (.int q), .dat (.int c)]⟩ = some (.int (c / (if n > 2 then n else 2)), ⟨⟨s.dk, l, s.mixed, s.draws + 1⟩, [.dat (.raw (.ref s.dk)), .dat (.int n), .dat (.int q), .dat (.int c)]⟩) := by
          have := fdiv_ok (i := c) hm.1 hm.2
          show liftM (fdivD (.int c) (.int (if n > 2 then n else 2))) _ = _
          rw [this]; rfl
        unfold cellsAppM
        rw [if_pos (deckG_at rfl)]
        show (match (op2M fdivD (varM 3) (callD max2D (consM (pureM (.int 2)) (consM (varM 1) (pureM []))))) ⟨⟨s.dk, l, s.mixed, s.draws + 1⟩, [.dat (.raw (.ref s.dk)), .dat (.int n), .dat (.int q), .dat (.int c)]⟩ with | some (.int n, s1) => _ | _ => none) = _
        rw [e1]
        simp only
        rw [if_pos ⟨deckG_at rfl, by show l.length < sizeLine; rw [sizeLine_eq]; omega⟩]
      · show Wp _ _ _
        rw [wp_seq, wp_ret, wp_op2, wp_callD, wp_cons, wp_var rfl, wp_pure]
        refine ⟨_, rfl, ?_⟩
        rw [wp_var rfl]
        exact ⟨_, mod_ok hn, _, rfl, Int.emod_nonneg _ (by omega), Int.emod_lt_of_pos _ hn, adv _ (by simp; omega)⟩
    · rw [if_neg hc, wp_pure]
      show Wp _ _ _
      rw [wp_seq, wp_asg, wp_op2, wp_var rfl, wp_op2, wp_callD, wp_cons, wp_var rfl, wp_pure]
      refine ⟨_, rfl, ?_⟩
      rw [wp_pure]
      refine ⟨_, mod_ok (by decide), _, rfl, ?_⟩
      rw [wp_tgN, wp_pure]
      have m0 : 0 ≤ c % 2147483549 ∧ c % 2147483549 < 2147483549 := ⟨Int.emod_nonneg _ (by decide), Int.emod_lt_of_pos _ (by decide)⟩
      show Wp drawTail _ _
      exact drawTail_ok (Q := fun d s' => ∃ k, d = .int k ∧ 0 ≤ k ∧ k < n ∧ Adv 1 s s') (s := ⟨s.dk, l, s.mixed, s.draws + 1⟩) (q := q + c % 2147483549) hn hn2 (by omega) (by omega) hd.1 (by show s.draws + 1 < _; omega) fun k k0 k1 => ⟨k, rfl, k0, k1, adv _ (by omega)⟩
theorem wps_draw {s : S} {r : List Slot} {i : Nat} {n : Int} {a : M D} {dk : Addr} {P : D → Sta → Prop} (h0 : r[i]? = some (.dat (.raw (.ref dk)))) (hdk : dk = s.dk) (h : Ev a ⟨s, r⟩ (.int n)) (hn : 0 < n) (hn2 : n ≤ 1000) (g : Good 1 s)
    (q : ∀ k s', 0 ≤ k → k < n → Adv 1 s s' → P (.int k) ⟨s', r⟩) : Wp (callM 2 r_Llaw_draw (consM (varM i) (consM a (pureM [])))) ⟨s, r⟩ P := by
  subst hdk
  obtain ⟨k, s', e, h1, h2, h3⟩ := draw_ok hn hn2 g
  exact wps_call (ev_cons (ev_var h0) (ev_cons h ev_nil)) rfl ⟨_, _, e, q k s' h1 h2 h3⟩
theorem pick_ok {b : Bool} {ds : List D} {s : S} (hne : 0 < ds.length) (hl : ds.length ≤ 1000) (g : Good 1 s) : ∃ d s', r_Llaw_pick [.raw (.ref s.dk), .tup b ds] s = some (d, s') ∧ d ∈ ds ∧ Adv 1 s s' := by
  have := run_of (n := 2) (np := 2) (body := b_Llaw_pick) (ds := [.raw (.ref s.dk), .tup b ds]) (s := s) (Q := fun d s' => d ∈ ds ∧ Adv 1 s s') rfl ?_
  · obtain ⟨d, s', e, h1, h2⟩ := this
    exact ⟨d, s', e, h1, h2⟩
  unfold b_Llaw_pick
  refine wps_ret (wp_op2.mpr ((ev_var (d := .tup b ds) rfl).wp ?_))
  refine wps_draw (dk := s.dk) rfl rfl (ev_callD (ev_cons (ev_var rfl) ev_nil) lenD_t) (by omega) (by omega) g fun k s' h1 h2 h3 => ?_
  obtain ⟨d, e, hd⟩ := atI_in h1 h2
  exact ⟨d, e, hd, h3⟩
theorem laid2_ok {ds os : List Int} {b c : Bool} {s : S} (ho : ∀ k ∈ os, 0 ≤ k ∧ k < ds.length) (h60 : os.length ≤ 1000) : r_Llaw_laid [.tup b (I ds), .tup c (I os)] s = some (.tup true (I (app ds os)), s) := by
  refine run_is rfl ?_
  unfold b_Llaw_laid
  simp (config := { maxSteps := 100000000 }) only [wp_seq, wp_ret, wp_asg, wp_drop, wp_ifS, wp_ifM, wp_op2, wp_test, wp_callD, wp_cons, wp_pure, wp_call, wp_tOr, wp_tAnd, wp_tNot, wp_and, wp_not, wp_tgN, wp_varI, wp_seqI, wp_itM, wp_ofL, wp_callL, wp_fit, wp_tup, wp_own, wp_chain, chainP, varP, ex_some, ex_some2, asB_bl, asSeq, addD_ii, subD_ii, ltD_ii, leD_ii, gtD_ii, geD_ii, eqD_ii, neD_ii, lenD_l, lenD_t, isi_ii, isi_ib, isi_tt, List.getElem?_cons_zero, List.getElem?_cons_succ, List.set_cons_zero, List.set_cons_succ, List.map_cons, List.map_nil, List.cons_append, List.nil_append, List.replicate, List.length_cons, List.length_nil, if_true, if_false, ite_true, ite_false, Bool.false_eq_true, Bool.not_true, Bool.not_false, true_and, and_true, Nat.reduceAdd, Nat.reduceSub, and_self]
  refine comp_map (ds := I os) (f := atF ds) rfl (by simp (config := { maxSteps := 100000000 }) only [wp_seq, wp_ret, wp_asg, wp_drop, wp_ifS, wp_ifM, wp_op2, wp_test, wp_callD, wp_cons, wp_pure, wp_call, wp_tOr, wp_tAnd, wp_tNot, wp_and, wp_not, wp_tgN, wp_varI, wp_seqI, wp_itM, wp_ofL, wp_callL, wp_fit, wp_tup, wp_own, wp_chain, chainP, varP, ex_some, ex_some2, asB_bl, asSeq, addD_ii, subD_ii, ltD_ii, leD_ii, gtD_ii, geD_ii, eqD_ii, neD_ii, lenD_l, lenD_t, isi_ii, isi_ib, isi_tt, List.getElem?_cons_zero, List.getElem?_cons_succ, List.set_cons_zero, List.set_cons_succ, List.map_cons, List.map_nil, List.cons_append, List.nil_append, List.replicate, List.length_cons, List.length_nil, if_true, if_false, ite_true, ite_false, Bool.false_eq_true, Bool.not_true, Bool.not_false, true_and, and_true, Nat.reduceAdd, Nat.reduceSub, and_self]) (by rw [lenI, sizeLine_eq]; omega) (fun d hdm => ?_) ?_
  · obtain ⟨k, hk, rfl⟩ := List.mem_map.mp hdm
    have := ho k hk
    simp (config := { maxSteps := 100000000 }) only [wp_seq, wp_ret, wp_asg, wp_drop, wp_ifS, wp_ifM, wp_op2, wp_test, wp_callD, wp_cons, wp_pure, wp_call, wp_tOr, wp_tAnd, wp_tNot, wp_and, wp_not, wp_tgN, wp_varI, wp_seqI, wp_itM, wp_ofL, wp_callL, wp_fit, wp_tup, wp_own, wp_chain, chainP, varP, ex_some, ex_some2, asB_bl, asSeq, addD_ii, subD_ii, ltD_ii, leD_ii, gtD_ii, geD_ii, eqD_ii, neD_ii, lenD_l, lenD_t, isi_ii, isi_ib, isi_tt, List.getElem?_cons_zero, List.getElem?_cons_succ, List.set_cons_zero, List.set_cons_succ, List.map_cons, List.map_nil, List.cons_append, List.nil_append, List.replicate, List.length_cons, List.length_nil, if_true, if_false, ite_true, ite_false, Bool.false_eq_true, Bool.not_true, Bool.not_false, true_and, and_true, Nat.reduceAdd, Nat.reduceSub, and_self, ix_I this.1 this.2]
    rfl
  · exact ⟨_, rfl, congrArg (D.tup true) (map_at ds os), rfl⟩
theorem cards_ok {n m : Nat} {s : S} (hn : 1 ≤ n) (hn8 : n ≤ 8) (hm : m ≤ 60) (g : Good 70 s) : ∃ ns s', r_Llaw_cards [.raw (.ref s.dk), .int (n : Int), .int (m : Int)] s = some (.tup true (I ns), s') ∧ ns.length ≤ m ∧ (∀ k ∈ ns, 0 ≤ k ∧ k ≤ (n : Int) - 1) ∧ Adv 70 s s' := by
  have := run_of (n := 7) (np := 3) (body := b_Llaw_cards) (ds := [.raw (.ref s.dk), .int (n : Int), .int (m : Int)]) (s := s) (Q := fun d s' => ∃ ns : List Int, d = .tup true (I ns) ∧ ns.length ≤ m ∧ (∀ k ∈ ns, 0 ≤ k ∧ k ≤ (n : Int) - 1) ∧ Adv 70 s s') rfl ?_
  · obtain ⟨d, s', e, ns, rfl, h⟩ := this
    exact ⟨ns, s', e, h⟩
  unfold b_Llaw_cards
  show Wp _ ⟨s, [.dat (.raw (.ref s.dk)), .dat (.int n), .dat (.int m), .un, .un, .un, .un]⟩ _
  refine wps_asg (wps_tup (wp_cons.mpr (wps_draw (dk := s.dk) rfl rfl ev_pure (by omega) (by omega) (g.mono (by omega)) fun w s1 w0 w5 a1 => wp_cons.mpr (wps_draw (dk := s.dk) rfl a1.dk.symm (ev_op2 (ev_var rfl) ev_pure addD_ii) (by omega) (by omega) (a1.good 1 (g.mono (by omega))) fun c s2 c0 c1 a2 => wp_pure.mpr ⟨by rw [sizeLine_eq]; simp, ?_⟩))))
  refine tg2.mono fun _ st e => ?_
  subst e
  have a12 : Adv 2 s s2 := a1.trans a2
  refine wps_if ((ev_test (ev_op2 (ev_var rfl) ev_pure eqD_ii)).wp ?_)
  by_cases hw : w = 0
  · rw [if_pos (by simpa using hw)]
    refine wps_ret (wp_callD.mpr (wp_cons.mpr (wp_op2.mpr (wps_ofL (wps_fit (wp_cons.mpr (wps_draw (dk := s.dk) rfl a12.dk.symm (ev_var rfl) (by omega) (by omega) (a12.good 1 (g.mono (by omega))) fun k s3 k0 k1 a3 => wp_pure.mpr ⟨by rw [sizeLine_eq]; simp, ?_⟩)))))))
    refine (ev_var (d := .int c) rfl).wp ⟨.lst (List.replicate c.toNat (.int k)), ?_, wp_pure.mpr ⟨_, rfl, List.replicate c.toNat k, ?_, ?_, ?_, (a12.trans a3).weak (by omega)⟩⟩
    · rw [show mulD (.lst [.int k]) (.int c) = repD (.lst [.int k]) (.int c) from rfl, repD_eq, if_pos ⟨by omega, by omega, by rw [sizeLine_eq, List.length_singleton]; omega⟩, flat_one]
    · unfold I
      rw [List.map_replicate]
    · rw [List.length_replicate]; omega
    · intro x hx
      have := List.eq_of_mem_replicate hx
      omega
  · rw [if_neg (by simpa using hw)]
    refine wps_set (wp_op2.mpr ((ev_pure (x := D.int 1)).wp (wps_draw (dk := s.dk) rfl a12.dk.symm (ev_var rfl) (by omega) (by omega) (a12.good 1 (g.mono (by omega))) fun f s3 f0 f1 a3 => ⟨_, addD_ii, ?_⟩)))
    have a13 : Adv 3 s s3 := a12.trans a3
    refine wps_ret (wp_callD.mpr (wp_cons.mpr (wps_ofL ?_)))
    obtain ⟨q, rfl⟩ : ∃ q : Nat, c = q := ⟨c.toNat, by omega⟩
    refine wps_comp (fun x => [.dat (.raw (.ref s.dk)), .dat (.int n), .dat (.int m), .dat (.int (1 + f)), .dat (.int w), .dat (.int (q : Int)), .dat x]) (fun _ => true) (fun i acc s4 => Adv (3 + i) s s4 ∧ ∃ ns, acc = I ns ∧ ns.length = i ∧ ∀ k ∈ ns, 0 ≤ k ∧ k ≤ (n : Int) - 1)
      (ev_it (ev_cons (ev_var rfl) ev_nil) (rng1_row (by omega))) rfl rfl ⟨a13, [], rfl, rfl, fun k hk => by cases hk⟩ (fun x _ s4 => tg1) (fun x _ => rfl) (fun x _ s4 => ev_pure) ?_ (fun i x acc s4 _ e => by cases e) ?_
    · rintro i x acc s4 hx _ ⟨a4, ns, rfl, hl, hr⟩
      have hi : i < q := by
        have := (List.getElem?_eq_some_iff.mp hx).1
        rwa [lenI, row_len] at this
      refine wps_draw (n := if w = 1 then 1 + f else n) (dk := s.dk) rfl a4.dk.symm ?_ (by split <;> omega) (by split <;> omega) (a4.good 1 (g.mono (by omega))) fun k s5 k0 k1 a5 => ⟨s5, rfl, a4.trans a5, ns ++ [k], ?_, ?_, ?_⟩
      · have := ev_ifM (t := testM (op2M eqD (varM 4) (pureM (.int 1)))) (a := varM 3) (b := varM 1) (st := ⟨s4, [.dat (.raw (.ref s.dk)), .dat (.int n), .dat (.int m), .dat (.int (1 + f)), .dat (.int w), .dat (.int (q : Int)), .dat x]⟩) (ev_test (ev_op2 (ev_var rfl) ev_pure eqD_ii)) (fun _ => ev_var rfl) (fun _ => ev_var rfl)
        by_cases h1 : w = 1
        · rw [if_pos h1]; rwa [if_pos (by simpa using h1)] at this
        · rw [if_neg h1]; rwa [if_neg (by simpa using h1)] at this
      · unfold I; rw [List.map_append]; rfl
      · rw [List.length_append, hl]; rfl
      · intro y hy
        rcases List.mem_append.mp hy with hy | hy
        · exact hr y hy
        · have := List.mem_singleton.mp hy
          subst this
          split at k1 <;> omega
    · rintro acc s4 ⟨a4, ns, rfl, hl, hr⟩
      rw [lenI, row_len] at hl a4
      exact ⟨by rw [lenI, sizeLine_eq]; omega, wp_pure.mpr ⟨_, rfl, ns, rfl, by omega, hr, a4.weak (by omega)⟩⟩
theorem order_ok {n : Nat} {s : S} (hn : n ≤ 60) (g : Good n s) : ∃ ns s', r_Llaw_order [.raw (.ref s.dk), .int (n : Int)] s = some (.tup true (I ns), s') ∧ OrdP ns ∧ ns.length = n ∧ Adv n s s' := by
  have := run_of (n := 5) (np := 2) (body := b_Llaw_order) (ds := [.raw (.ref s.dk), .int (n : Int)]) (s := s) (Q := fun d s' => ∃ ns : List Int, d = .tup true (I ns) ∧ OrdP ns ∧ ns.length = n ∧ Adv n s s') rfl ?_
  · obtain ⟨d, s', e, ns, rfl, h⟩ := this
    exact ⟨ns, s', e, h⟩
  unfold b_Llaw_order
  show Wp _ ⟨s, [.dat (.raw (.ref s.dk)), .dat (.int n), .un, .un, .un]⟩ _
  have e2 : rgD (.int (n : Int)) = some (I (row n)) := by rw [rgD_int (by omega), rng_eq]; rfl
  refine wps_parM (wps_xOwn ((ev_listRg (ev_var rfl) e2).wp (wps_xOwn (wps_fit ((ev_pure (x := ([] : List D))).wp ⟨Nat.zero_le _, wp_pure.mpr ⟨rfl, ?_⟩⟩)))))
  show Wp _ ⟨s, [.dat (.raw (.ref s.dk)), .dat (.int n), .un, .own (I (row n)), .own []]⟩ _
  refine wps_for (fun i st => ∃ s1 L R x, st = ⟨s1, [.dat (.raw (.ref s.dk)), .dat (.int n), x, .own (I L), .own (I R)]⟩ ∧ (R ++ L).Perm (row n) ∧ R.length = i ∧ Adv i s s1) (ev_it (ev_cons (ev_var rfl) ev_nil) (rng1_row (by omega))) ⟨s, row n, [], .un, rfl, List.Perm.refl _, rfl, Adv.refl s⟩ ?_ ?_
  · rintro i x st hx ⟨s1, L, R, y, rfl, hp, hl, a1⟩
    have hi : i < n := by
      have := (List.getElem?_eq_some_iff.mp hx).1
      rwa [lenI, row_len] at this
    have hL : R.length + L.length = n := by
      have := hp.length_eq
      rwa [List.length_append, row_len] at this
    refine tg1.mono fun _ st e => ?_
    subst e
    refine wps_drop (wps_mut rfl (wp_cons.mpr (wps_mut rfl (wp_cons.mpr (wps_draw (n := L.length) (dk := s.dk) rfl a1.dk.symm ?_ (by omega) (by omega) (a1.good 1 (g.mono (by omega))) fun k s2 k0 k1 a2 => wp_pure.mpr ⟨_, rfl, ?_⟩)))))
    · have := ev_ownLen (s := s1) (i := 3) (r := [.dat (.raw (.ref s.dk)), .dat (.int n), .dat x, .own (I L), .own (I R)]) (xs := I L) rfl
      rwa [lenI] at this
    · obtain ⟨j, rfl⟩ : ∃ j : Nat, k = j := ⟨k.toNat, by omega⟩
      have hj : j < L.length := by omega
      have e := popAt_ok (xs := I L) (j := j) (by rw [lenI]; exact hj) (by rw [lenI]; omega)
      · refine ⟨_, _, e, wp_pure.mpr ⟨_, rfl, .non, I (R ++ [L[j]]), ?_, wp_pure.mpr ⟨s2, L.eraseIdx j, R ++ [L[j]], .dat x, ?_, ?_, ?_, ?_⟩⟩⟩
        · rw [append_ok (by rw [lenI]; omega)]
          unfold I
          rw [List.map_append, List.getElem_map]; rfl
        · show Sta.mk _ [_, _, _, Slot.own ((I L).eraseIdx j), _] = _
          unfold I
          rw [erase_map]
        · rw [List.append_assoc]
          exact ((erase_perm hj).append_left R).trans hp
        · rw [List.length_append, hl]; rfl
        · exact a1.trans a2
  · rintro st ⟨s1, L, R, y, rfl, hp, hl, a1⟩
    rw [lenI, row_len] at hl a1
    have hL : L = [] := by
      have := hp.length_eq
      rw [List.length_append, row_len] at this
      exact List.eq_nil_of_length_eq_zero (by omega)
    subst hL
    rw [List.append_nil] at hp
    refine wps_ret (wp_callD.mpr (wp_cons.mpr ((wp_varO rfl).mpr (wp_pure.mpr ⟨_, rfl, R, rfl, ?_, hl, a1⟩))))
    unfold OrdP
    rw [hl]; exact hp
theorem throw_ok {n : Nat} {s : S} (hn : 1 ≤ n) (hn8 : n ≤ 8) (g : Good 30 s) : ∃ t s', r_Llaw_throw [.raw (.ref s.dk), .int (n : Int)] s = some (.tup true (TH false true t), s') ∧ IsTh n t ∧ Adv 30 s s' := by
  have := run_of (n := 10) (np := 2) (body := b_Llaw_throw) (ds := [.raw (.ref s.dk), .int (n : Int)]) (s := s) (Q := fun d s' => ∃ t : Th, d = .tup true (TH false true t) ∧ IsTh n t ∧ Adv 30 s s') rfl ?_
  · obtain ⟨d, s', e, ns, rfl, h⟩ := this
    exact ⟨ns, s', e, h⟩
  unfold b_Llaw_throw
  show Wp _ ⟨s, [.dat (.raw (.ref s.dk)), .dat (.int n), .un, .un, .un, .un, .un, .un, .un, .un]⟩ _
  refine wps_asg (wps_tup (wp_cons.mpr (wps_draw (dk := s.dk) rfl rfl ev_pure (by omega) (by omega) (g.mono (by omega)) fun w s1 w0 w5 a1 => wp_cons.mpr (wp_op2.mpr ((ev_pure (x := D.int 1)).wp (wps_draw (dk := s.dk) rfl a1.dk.symm (ev_var rfl) (by omega) (by omega) (a1.good 1 (g.mono (by omega))) fun c s2 c0 c1 a2 => ⟨_, addD_ii, wp_pure.mpr ⟨by rw [sizeLine_eq]; simp, ?_⟩⟩))))))
  refine tg2.mono fun _ st e => ?_
  subst e
  have a12 : Adv 2 s s2 := a1.trans a2
  -- how many places
  suffices key : ∀ many : Int, 1 ≤ many → many ≤ 8 → Wp (seqM (asgM (ifM (testM (op2M neD (varM 5) (pureM (.int 1)))) (ofLM (compM (itM rng1D (consM (varM 1) (pureM []))) (tgN 8) (pureM true) (callM 2 r_Llaw_draw (consM (varM 0) (consM (varM 6) (pureM [])))) [8])) (ofLM (callL listD (consM (callM 2 r_Llaw_order (consM (varM 0) (consM (varM 1) (pureM [])))) (pureM []))))) (tgN 2)) (
    seqM (ownM 3 (compM (itM rng1D (consM (op2M addD (callD maxD (consM (varM 2) (pureM []))) (pureM (.int 1))) (pureM []))) (tgN 7) (pureM true) (callD tupD (consM (ofLM (compM (itM rng1D (consM (varM 1) (pureM []))) (tgN 8) (testM (op2M eqD (op2M ixD (varM 2) (varM 8)) (varM 7))) (varM 8) [8])) (pureM []))) [7])) (
    frzM 3 (seqM (asgM (callM 2 r_Llaw_pick (consM (varM 0) (consM (tupM (consM (pureM (.int 1)) (consM (negM (pureM (.int 1))) (pureM [])))) (pureM [])))) (tgN 4)) (
    seqM (retM (callD tupD (consM (ofLM (compM (seqI (varM 3)) (tgN 9) (testM (op2M neD (varM 9) (tupM (pureM [])))) (tupM (consM (varM 9) (consM (ifM (testM (op2M eqD (varM 5) (pureM (.int 2)))) (varM 4) (callM 2 r_Llaw_pick (consM (varM 0) (consM (tupM (consM (pureM (.int 1)) (consM (negM (pureM (.int 1))) (pureM [])))) (pureM []))))) (pureM [])))) [9])) (pureM [])))) (
    pureM .nx))))))
    ⟨s2, [.dat (.raw (.ref s.dk)), .dat (.int n), .un, .un, .un, .dat (.int w), .dat (.int many), .un, .un, .un]⟩ fun fl st' => match fl with | .rt d => ∃ t : Th, d = .tup true (TH false true t) ∧ IsTh n t ∧ Adv 30 s st'.s | .nx => ∃ t : Th, D.non = .tup true (TH false true t) ∧ IsTh n t ∧ Adv 30 s st'.s | _ => False by
    refine wps_if ((ev_test (ev_op2 (ev_var rfl) ev_pure eqD_ii)).wp ?_)
    by_cases hw : w = 0
    · rw [if_pos (by simpa using hw)]
      exact wps_set (wp_pure.mpr (wp_pure.mpr (key 1 (by omega) (by omega))))
    · rw [if_neg (by simpa using hw)]
      exact key (1 + c) (by omega) (by omega)
  intro many hm1 hm8
  -- the places
  suffices key2 : ∀ (pl : List Int) (s3 : S), pl.length = n → (∀ k ∈ pl, 0 ≤ k ∧ k < (8 : Nat)) → Adv 20 s s3 → Wp (
    seqM (ownM 3 (compM (itM rng1D (consM (op2M addD (callD maxD (consM (varM 2) (pureM []))) (pureM (.int 1))) (pureM []))) (tgN 7) (pureM true) (callD tupD (consM (ofLM (compM (itM rng1D (consM (varM 1) (pureM []))) (tgN 8) (testM (op2M eqD (op2M ixD (varM 2) (varM 8)) (varM 7))) (varM 8) [8])) (pureM []))) [7])) (
    frzM 3 (seqM (asgM (callM 2 r_Llaw_pick (consM (varM 0) (consM (tupM (consM (pureM (.int 1)) (consM (negM (pureM (.int 1))) (pureM [])))) (pureM [])))) (tgN 4)) (
    seqM (retM (callD tupD (consM (ofLM (compM (seqI (varM 3)) (tgN 9) (testM (op2M neD (varM 9) (tupM (pureM [])))) (tupM (consM (varM 9) (consM (ifM (testM (op2M eqD (varM 5) (pureM (.int 2)))) (varM 4) (callM 2 r_Llaw_pick (consM (varM 0) (consM (tupM (consM (pureM (.int 1)) (consM (negM (pureM (.int 1))) (pureM [])))) (pureM []))))) (pureM [])))) [9])) (pureM [])))) (
    pureM .nx)))))
    ⟨s3, [.dat (.raw (.ref s.dk)), .dat (.int n), .dat (.lst (I pl)), .un, .un, .dat (.int w), .dat (.int many), .un, .un, .un]⟩ fun fl st' => match fl with | .rt d => ∃ t : Th, d = .tup true (TH false true t) ∧ IsTh n t ∧ Adv 30 s st'.s | .nx => ∃ t : Th, D.non = .tup true (TH false true t) ∧ IsTh n t ∧ Adv 30 s st'.s | _ => False by
    refine wps_set (wp_ifM.mpr ((ev_test (ev_op2 (ev_var rfl) ev_pure neD_ii)).wp ?_))
    by_cases hw : w = 1
    · rw [if_neg (by simpa using hw)]
      refine wps_ofL ?_
      obtain ⟨ns, s3, e, ho, hl, a3⟩ := order_ok (n := n) (s := s2) (by omega) (a12.good n (g.mono (by omega)))
      rw [a12.dk] at e
      unfold callL
      refine wp_bind.mpr (wp_cons.mpr (wps_call (ev_cons (ev_var rfl) (ev_cons (ev_var rfl) ev_nil)) rfl ⟨_, _, e, wp_pure.mpr (wp_lift.mpr ⟨I ns, ?_, ?_⟩)⟩))
      · show (if (I ns).length ≤ sizeLine then some (I ns) else none) = _
        rw [if_pos (by rw [lenI, sizeLine_eq]; omega)]
      · exact key2 ns s3 hl (fun k hk => by have := ho.range k hk; omega) ((a12.trans a3).weak (by omega))
    · rw [if_pos (by simpa using hw)]
      refine wps_ofL ?_
      refine wps_comp (fun x => [.dat (.raw (.ref s.dk)), .dat (.int n), .un, .un, .un, .dat (.int w), .dat (.int many), .un, .dat x, .un]) (fun _ => true) (fun i acc s4 => Adv (2 + i) s s4 ∧ ∃ ns, acc = I ns ∧ ns.length = i ∧ ∀ k ∈ ns, 0 ≤ k ∧ k < (8 : Nat))
        (ev_it (ev_cons (ev_var rfl) ev_nil) (rng1_row (by omega))) rfl rfl ⟨a12, [], rfl, rfl, fun k hk => by cases hk⟩ (fun x _ s4 => tg1) (fun x _ => rfl) (fun x _ s4 => ev_pure) ?_ (fun i x acc s4 _ e => by cases e) ?_
      · rintro i x acc s4 hx _ ⟨a4, ns, rfl, hl, hr⟩
        have hi : i < n := by
          have := (List.getElem?_eq_some_iff.mp hx).1
          rwa [lenI, row_len] at this
        refine wps_draw (n := many) (dk := s.dk) rfl a4.dk.symm (ev_var rfl) (by omega) (by omega) (a4.good 1 (g.mono (by omega))) fun k s5 k0 k1 a5 => ⟨s5, rfl, a4.trans a5, ns ++ [k], ?_, ?_, ?_⟩
        · unfold I; rw [List.map_append]; rfl
        · rw [List.length_append, hl]; rfl
        · intro y hy
          rcases List.mem_append.mp hy with hy | hy
          · exact hr y hy
          · have := List.mem_singleton.mp hy
            subst this
            omega
      · rintro acc s4 ⟨a4, ns, rfl, hl, hr⟩
        rw [lenI, row_len] at hl a4
        exact ⟨by rw [lenI, sizeLine_eq]; omega, key2 ns s4 hl hr (a4.weak (by omega))⟩
  intro pl s3 hl hr a3
  obtain ⟨mx, emx, hmx, hr2⟩ := max_ok (m := 8) (fun e => by subst e; simp at hl; omega) hr
  -- the lots
  have el : Ev (compM (itM rng1D (consM (op2M addD (callD maxD (consM (varM 2) (pureM []))) (pureM (.int 1))) (pureM []))) (tgN 7) (pureM true) (callD tupD (consM (ofLM (compM (itM rng1D (consM (varM 1) (pureM []))) (tgN 8) (testM (op2M eqD (op2M ixD (varM 2) (varM 8)) (varM 7))) (varM 8) [8])) (pureM []))) [7])
      ⟨s3, [.dat (.raw (.ref s.dk)), .dat (.int n), .dat (.lst (I pl)), .un, .un, .dat (.int w), .dat (.int many), .un, .un, .un]⟩ ((row (mx + 1)).map fun a => .tup true (I (lotAt pl n a))) := by
    have := ev_map (s := s3) (k := tgN 7) (te := callD tupD (consM (ofLM (compM (itM rng1D (consM (varM 1) (pureM []))) (tgN 8) (testM (op2M eqD (op2M ixD (varM 2) (varM 8)) (varM 7))) (varM 8) [8])) (pureM []))) (vs := [7]) (ds := I (row (mx + 1))) (r := [.dat (.raw (.ref s.dk)), .dat (.int n), .dat (.lst (I pl)), .un, .un, .dat (.int w), .dat (.int many), .un, .un, .un])
      (fun x => [.dat (.raw (.ref s.dk)), .dat (.int n), .dat (.lst (I pl)), .un, .un, .dat (.int w), .dat (.int many), .dat x, .un, .un]) (fun x => match x with | .int a => .tup true (I (lotAt pl n a)) | _ => .non) (it := itM rng1D (consM (op2M addD (callD maxD (consM (varM 2) (pureM []))) (pureM (.int 1))) (pureM [])))
      (ev_it (ev_cons (ev_op2 (ev_callD (ev_cons (ev_var rfl) ev_nil) emx) ev_pure addD_ii) ev_nil) (show rng1D [.int ((mx : Int) + 1)] = _ from by rw [show (mx : Int) + 1 = ((mx + 1 : Nat) : Int) by omega]; exact rng1_row (by omega))) (by rw [lenI, row_len, sizeLine_eq]; omega) rfl rfl (fun x _ => tg1) (fun x _ => rfl) ?_
    · rw [show (I (row (mx + 1))).map _ = (row (mx + 1)).map fun a => D.tup true (I (lotAt pl n a)) from by unfold I; rw [List.map_map]; rfl] at this
      exact this
    · intro x hx
      obtain ⟨a, ha, rfl⟩ := List.mem_map.mp hx
      refine ev_callD (ev_cons (ev_ofL (?_ : Ev _ _ (I (lotAt pl n a)))) ev_nil) rfl
      have h2 := ev_comp (s := s3) (k := tgN 8) (te := varM 8) (tt := testM (op2M eqD (op2M ixD (varM 2) (varM 8)) (varM 7))) (vs := [8]) (ds := I (row n)) (r := [.dat (.raw (.ref s.dk)), .dat (.int n), .dat (.lst (I pl)), .un, .un, .dat (.int w), .dat (.int many), .dat (.int a), .un, .un])
        (fun x => [.dat (.raw (.ref s.dk)), .dat (.int n), .dat (.lst (I pl)), .un, .un, .dat (.int w), .dat (.int many), .dat (.int a), .dat x, .un]) (fun x => match x with | .int k => pl.getD k.toNat 0 == a | _ => false) (fun x => x) (it := itM rng1D (consM (varM 1) (pureM [])))
        (ev_it (ev_cons (ev_var rfl) ev_nil) (rng1_row (by omega))) (by rw [lenI, row_len, sizeLine_eq]; omega) rfl rfl (fun x _ => tg1) (fun x _ => rfl) ?_ (fun x _ _ => ev_var rfl)
      · rw [List.map_id', filter_I (q := fun k => pl.getD k.toNat 0 == a) fun k => rfl] at h2
        exact h2
      · intro x hx
        obtain ⟨k, hk, rfl⟩ := List.mem_map.mp hx
        have := mem_row.mp hk
        exact ev_test (ev_op2 (ev_op2 (ev_var rfl) (ev_var rfl) (show ixD (.lst (I pl)) (.int k) = _ from ix_I (b := true) this.1 (by omega))) (ev_var rfl) eqD_ii)
  refine wpe_ownF el (by simp) ?_
  have ep : Ev (tupM (consM (pureM (D.int 1)) (consM (negM (pureM (.int 1))) (pureM [])))) = fun st d => d = .tup false [.int 1, .int (-1)] := by
    funext st d
    apply propext
    constructor
    · intro h
      have : Ev (tupM (consM (pureM (D.int 1)) (consM (negM (pureM (.int 1))) (pureM [])))) st (.tup false [.int 1, .int (-1)]) := ev_tup (ev_cons ev_pure (ev_cons (ev_neg ev_pure) ev_nil)) (by rw [sizeLine_eq]; simp)
      unfold Ev at h this
      rw [this] at h
      cases h
      rfl
    · rintro rfl
      exact ev_tup (ev_cons ev_pure (ev_cons (ev_neg ev_pure) ev_nil)) (by rw [sizeLine_eq]; simp)
  have ep' : ∀ st, Ev (tupM (consM (pureM (D.int 1)) (consM (negM (pureM (.int 1))) (pureM [])))) st (.tup false [.int 1, .int (-1)]) := fun st => by rw [ep]
  obtain ⟨sg, s4, e4, hsg, a4⟩ := pick_ok (b := false) (ds := [.int 1, .int (-1)]) (s := s3) (by simp) (by simp) (a3.good 1 (g.mono (by omega)))
  rw [a3.dk] at e4
  refine wps_set (wps_call (ev_cons (ev_var rfl) (ev_cons (ep' _) ev_nil)) rfl ⟨_, _, e4, ?_⟩)
  have hsg' : ∃ g : Int, sg = .int g ∧ (g = 1 ∨ g = -1) := by
    rcases List.mem_cons.mp hsg with rfl | h
    · exact ⟨1, rfl, .inl rfl⟩
    · exact ⟨-1, List.mem_singleton.mp h, .inr rfl⟩
  obtain ⟨g1, rfl, hg1⟩ := hsg'
  have a34 : Adv 21 s s4 := a3.trans a4
  refine wps_ret (wp_callD.mpr (wp_cons.mpr (wps_ofL ?_)))
  refine wps_comp (s := s4) (ds := (row (mx + 1)).map fun a => .tup true (I (lotAt pl n a))) (r := [.dat (.raw (.ref s.dk)), .dat (.int n), .dat (.lst (I pl)), .dat (.lst ((row (mx + 1)).map fun a => .tup true (I (lotAt pl n a)))), .dat (.int g1), .dat (.int w), .dat (.int many), .un, .un, .un])
    (fun x => [.dat (.raw (.ref s.dk)), .dat (.int n), .dat (.lst (I pl)), .dat (.lst ((row (mx + 1)).map fun a => .tup true (I (lotAt pl n a)))), .dat (.int g1), .dat (.int w), .dat (.int many), .un, .un, .dat x]) (fun x => match x with | .tup _ l => !l.isEmpty | _ => false)
    (fun i acc s5 => Adv (21 + i) s s5 ∧ ∃ t : Th, acc = TH false true t ∧ t.map (·.1) = (((row (mx + 1)).take i).map fun a => lotAt pl n a).filter (fun l => !l.isEmpty) ∧ ∀ p ∈ t, p.2 = 1 ∨ p.2 = -1)
    rfl rfl rfl ⟨a34, [], rfl, rfl, fun p hp => by cases hp⟩ (fun x _ s4 => tg1) (fun x _ => rfl) ?_ ?_ ?_ ?_
  · intro x hx s5
    obtain ⟨a, ha, rfl⟩ := List.mem_map.mp hx
    refine ev_test (ev_op2 (ev_var rfl) (ev_tup ev_nil (Nat.zero_le _)) ?_)
    by_cases h : lotAt pl n a = []
    · rw [h]
      exact (neD_py (p := .tuple []) (q := .tuple []) rfl rfl rfl rfl rfl)
    · rw [ne_nil (fun e => h (by simpa using e)) (toPys_I _) ((lay_I _).mono (by omega))]
      refine congrArg some (congrArg D.bl ?_)
      cases q : lotAt pl n a with
      | nil => exact absurd q h
      | cons k l => rfl
  · rintro i x acc s5 hx hp ⟨a5, t, rfl, ht, hg⟩
    rw [List.getElem?_map] at hx
    obtain ⟨a, ha, rfl⟩ := Option.map_eq_some_iff.mp hx
    have hi : i < mx + 1 := by
      have := (List.getElem?_eq_some_iff.mp ha).1
      rwa [row_len] at this
    have done : ∀ (s6 : S) (g2 : Int), g2 = 1 ∨ g2 = -1 → Adv (21 + (i + 1)) s s6 → Adv (21 + (i + 1)) s s6 ∧ ∃ t' : Th, TH false true t ++ [D.tup false [.tup true (I (lotAt pl n a)), .int g2]] = TH false true t' ∧ t'.map (·.1) = (((row (mx + 1)).take (i + 1)).map fun a => lotAt pl n a).filter (fun l => !l.isEmpty) ∧ ∀ p ∈ t', p.2 = 1 ∨ p.2 = -1 := by
      intro s6 g2 h2 a6
      refine ⟨a6, t ++ [(lotAt pl n a, g2)], ?_, ?_, ?_⟩
      · unfold TH; rw [List.map_append]; rfl
      · rw [List.map_append, ht, List.take_add_one, ha, List.map_append, List.filter_append]
        have : (!(lotAt pl n a).isEmpty) = true := by
          cases q : lotAt pl n a with
          | nil => rw [q] at hp; cases hp
          | cons => rfl
        show _ = _ ++ List.filter _ [lotAt pl n a]
        rw [List.filter_cons_of_pos (p := fun l : List Int => !l.isEmpty) this]; rfl
      · intro p hp
        rcases List.mem_append.mp hp with hp | hp
        · exact hg p hp
        · rw [List.mem_singleton.mp hp]; exact h2
    refine wps_tup (wp_cons.mpr ((ev_var rfl).wp (wp_cons.mpr (wp_ifM.mpr ((ev_test (ev_op2 (ev_var rfl) ev_pure eqD_ii)).wp ?_)))))
    by_cases hw : w = 2
    · rw [if_pos (by simpa using hw)]
      exact (ev_var rfl).wp (wp_pure.mpr ⟨by rw [sizeLine_eq]; simp, s5, rfl, done s5 g1 hg1 (a5.weak (by omega))⟩)
    · rw [if_neg (by simpa using hw)]
      obtain ⟨sg, s6, e6, hsg, a6⟩ := pick_ok (b := false) (ds := [.int 1, .int (-1)]) (s := s5) (by simp) (by simp) (a5.good 1 (g.mono (by omega)))
      rw [a5.dk] at e6
      have hsg' : ∃ g : Int, sg = .int g ∧ (g = 1 ∨ g = -1) := by
        rcases List.mem_cons.mp hsg with rfl | h
        · exact ⟨1, rfl, .inl rfl⟩
        · exact ⟨-1, List.mem_singleton.mp h, .inr rfl⟩
      obtain ⟨g2, rfl, hg2⟩ := hsg'
      exact wps_call (ev_cons (ev_var rfl) (ev_cons (ep' _) ev_nil)) rfl ⟨_, _, e6, wp_pure.mpr ⟨by rw [sizeLine_eq]; simp, s6, rfl, done s6 g2 hg2 (a5.trans a6)⟩⟩
  · rintro i x acc s5 hx hp ⟨a5, t, rfl, ht, hg⟩
    rw [List.getElem?_map] at hx
    obtain ⟨a, ha, rfl⟩ := Option.map_eq_some_iff.mp hx
    refine ⟨a5.weak (by omega), t, rfl, ?_, hg⟩
    rw [ht, List.take_add_one, ha, List.map_append, List.filter_append]
    have : lotAt pl n a = [] := by
      cases q : lotAt pl n a with
      | nil => rfl
      | cons k l => rw [q] at hp; cases hp
    show _ = _ ++ List.filter _ [lotAt pl n a]
    rw [this]
    simp
  · rintro acc s5 ⟨a5, t, rfl, ht, hg⟩
    rw [List.length_map, row_len] at a5 ht
    rw [List.take_of_length_le (by rw [row_len]; omega)] at ht
    have hk : kindsT t = (row (mx + 1)).flatMap fun a => lotAt pl n a := by
      unfold kindsT
      rw [List.flatMap_def, ht, List.flatMap_def]
      generalize (row (mx + 1)).map (fun a => lotAt pl n a) = L
      induction L with
      | nil => rfl
      | cons l L ih =>
        cases l with
        | nil => exact ih
        | cons k l => exact congrArg ((k :: l) ++ ·) ih
    have th : IsTh n t := ⟨hn, hn8, fun p hp => ⟨?_, hg p hp⟩, ?_⟩
    · refine ⟨?_, wp_pure.mpr ⟨_, rfl, t, rfl, th, a5.weak (by omega)⟩⟩
      rw [th_len, sizeLine_eq]
      have := th.len
      omega
    · have h1 : p.1 ∈ t.map (·.1) := List.mem_map.mpr ⟨p, hp, rfl⟩
      rw [ht] at h1
      obtain ⟨h2, h3⟩ := List.mem_filter.mp h1
      obtain ⟨a, _, ha⟩ := List.mem_map.mp h2
      rw [← ha] at h3 ⊢
      exact isLot_at hn8 fun e => by rw [e] at h3; cases h3
    · show (kindsT t).Perm _
      rw [hk]
      exact lots_perm hl hr2
theorem after_ok {n : Nat} {t : Th} {ds : List Int} {a b c e : Bool} {s : S} (h : IsTh n t) (hd : Dk n ds) : r_Llaw_after [.tup c (TH a b t), .tup e (I ds)] s = some (.tup true (I (ordT t ds)), s) := by
  have ht8 := h.len
  have hk8 := h.kindsLen
  have hn8 := h.n8
  have hd60 := hd.1
  have lotk : ∀ (i : Nat) l g, t[i]? = some (l, g) → l.length ≤ 8 := fun i l g hi => by
    have hm := List.mem_of_getElem? hi
    have hl := (h.lots _ hm).1
    have := nodup_len (r := row 8) (hl.asc.imp fun h => by omega) (fun k hk => mem_row.mpr (by have := hl.rg k hk; omega))
    rwa [row_len] at this
  refine run_ev rfl ?_
  unfold b_Llaw_after
  show Wp _ ⟨s, [.dat (.tup c (TH a b t)), .dat (.tup e (I ds)), .un, .un, .un, .un, .un, .un, .un, .un, .un]⟩ _
  have eh : Ev (compM (seqI (varM 0)) (tgN 9) (pureM true) (ofLM (fitM (pureM []))) [9]) ⟨s, [.dat (.tup c (TH a b t)), .dat (.tup e (I ds)), .un, .un, .un, .un, .un, .un, .un, .un, .un]⟩ (heaps t []) := by
    have := ev_map (it := seqI (varM 0)) (k := tgN 9) (te := ofLM (fitM (pureM []))) (s := s) (vs := [9]) (r := [.dat (.tup c (TH a b t)), .dat (.tup e (I ds)), .un, .un, .un, .un, .un, .un, .un, .un, .un]) (ds := TH a b t) (fun x => [.dat (.tup c (TH a b t)), .dat (.tup e (I ds)), .un, .un, .un, .un, .un, .un, .un, .dat x, .un]) (fun _ => .lst []) (ev_seq (ev_var rfl) rfl) (by rw [th_len, sizeLine_eq]; omega) rfl rfl (fun x _ => tg1) (fun x _ => rfl) (fun x _ => ev_ofL (ev_fit ev_nil (Nat.zero_le _)))
    refine (show _ = heaps t [] from ?_) ▸ this
    unfold TH heaps
    rw [List.map_map]
    refine List.map_congr_left fun p _ => ?_
    show D.lst [] = .lst (I (lotCards p.1 p.2 []))
    unfold lotCards
    rw [places_nil]
    split <;> rfl
  refine wps_parM (wps_xDict (wps_xOwn (eh.wp (wp_pure.mpr ⟨rfl, ?_⟩))))
  show Wp _ ⟨s, [.dat (.tup c (TH a b t)), .dat (.tup e (I ds)), .un, .un, .ownd [], .own (heaps t []), .un, .un, .un, .un, .un]⟩ _
  refine wps_for (fun i st => ∃ kvs x6 x7 x9 x10, st = ⟨s, [.dat (.tup c (TH a b t)), .dat (.tup e (I ds)), .un, .un, .ownd kvs, .own (heaps t []), x6, x7, .un, x9, x10]⟩ ∧ kvs.length ≤ 8 * i ∧ ∀ (j : Nat) l g k, j < i → t[j]? = some (l, g) → k ∈ l → getP kvs (.inl k) = some (.int (j : Nat)))
    (ev_it (ev_cons (ev_var rfl) ev_nil) rfl) ⟨[], .un, .un, .un, .un, rfl, Nat.le_refl _, fun j l g k hj => absurd hj (Nat.not_lt_zero _)⟩ ?_ ?_
  · rintro i x st hx ⟨kvs, x6, x7, x9, x10, rfl, hkl, hkv⟩
    obtain ⟨l, g, hi, rfl⟩ := enum_TH hx
    have hit8 : i < t.length := (List.getElem?_eq_some_iff.mp hi).1
    refine tg12.mono fun _ st e => ?_
    subst e
    refine wps_for (fun m st => ∃ kvs x7, st = ⟨s, [.dat (.tup c (TH a b t)), .dat (.tup e (I ds)), .un, .un, .ownd kvs, .own (heaps t []), .dat (.int (i : Nat)), x7, .un, .dat (.tup b (I l)), .dat (.int g)]⟩ ∧ kvs.length ≤ 8 * i + m ∧ (∀ (j : Nat) l g k, j < i → t[j]? = some (l, g) → k ∈ l → getP kvs (.inl k) = some (.int (j : Nat))) ∧ ∀ k ∈ l.take m, getP kvs (.inl k) = some (.int (i : Nat)))
      (ev_seq (ev_var rfl) rfl) ⟨kvs, x7, rfl, hkl, hkv, fun k hk => by cases hk⟩ ?_ ?_
    · rintro m x st hx ⟨kvs, x7, rfl, hkl, hkv, hkm⟩
      obtain ⟨k, hk, rfl⟩ := I_get hx
      have hml : m < l.length := (List.getElem?_eq_some_iff.mp hk).1
      have hl8 := lotk i l g hi
      refine tg1.mono fun _ st e => ?_
      subst e
      refine wps_asg ((ev_var rfl).wp (wps_dSet (j := .inl k) rfl (ev_var rfl) rfl (by rw [sizeLine_eq]; omega) (wp_pure.mpr ⟨_, _, rfl, ?_, fun j l' g' k' hj hj' hk' => ?_, fun k' hk' => ?_⟩)))
      · have := putP_len (kds := kvs) (j := .inl k) (d := .int (i : Nat))
        omega
      · rw [getP_put]
        have hne : k ≠ k' := fun z => by
          subst z
          have nd := (List.pairwise_flatMap.mp h.ord.nodup).2
          have := List.pairwise_iff_getElem.mp nd j i (List.getElem?_eq_some_iff.mp hj').1 hit8 hj
          rw [(List.getElem?_eq_some_iff.mp hj').2, (List.getElem?_eq_some_iff.mp hi).2] at this
          exact this k hk' k (List.mem_of_getElem? hk) rfl
        rw [if_neg (fun z => hne (Sum.inl.inj z))]
        exact hkv j l' g' k' hj hj' hk'
      · rw [getP_put]
        by_cases hkk : k = k'
        · rw [if_pos (by rw [hkk])]
        · rw [if_neg (fun z => hkk (Sum.inl.inj z))]
          rw [List.take_add_one, hk] at hk'
          rcases List.mem_append.mp hk' with hk' | hk'
          · exact hkm k' hk'
          · exact absurd (List.mem_singleton.mp hk').symm hkk
    · rintro st ⟨kvs, x7, rfl, hkl, hkv, hkm⟩
      rw [lenI, List.take_length] at *
      have hl8 := lotk i l g hi
      refine wp_pure.mpr ⟨kvs, _, _, _, _, rfl, by omega, fun j l' g' k' hj hj' hk' => ?_⟩
      by_cases hji : j = i
      · subst hji
        rw [hi] at hj'
        cases hj'
        exact hkm k' hk'
      · exact hkv j l' g' k' (by omega) hj' hk'
  · rintro st ⟨kvs, x6, x7, x9, x10, rfl, hkl, hkv⟩
    rw [enumL_len, th_len] at hkl hkv
    refine wps_for (fun i st => ∃ x6 x7 x8, st = ⟨s, [.dat (.tup c (TH a b t)), .dat (.tup e (I ds)), .un, .un, .ownd kvs, .own (heaps t (ds.take i)), x6, x7, x8, x9, x10]⟩)
      (ev_it (ev_cons (ev_var rfl) ev_nil) rfl) ⟨x6, x7, .un, rfl⟩ ?_ ?_
    · rintro i x st hx ⟨x6, x7, x8, rfl⟩
      obtain ⟨y, hy, rfl⟩ := enumL_get hx
      obtain ⟨k, hk, rfl⟩ := I_get hy
      have hid : i < ds.length := (List.getElem?_eq_some_iff.mp hk).1
      have hkr := hd.2 k (List.mem_of_getElem? hk)
      have hkin : k ∈ kindsT t := h.all.mem_iff.mpr (mem_row.mpr (by omega))
      obtain ⟨p, hp, hkp⟩ := List.mem_flatMap.mp hkin
      obtain ⟨j, hj⟩ := List.mem_iff_getElem?.mp hp
      have hjt : j < t.length := (List.getElem?_eq_some_iff.mp hj).1
      refine tg2.mono fun _ st e => ?_
      subst e
      refine wpe_set (ev_dGet (j := .inl k) rfl (ev_var rfl) rfl (hkv j p.1 p.2 k hjt hj hkp)) ?_
      have hix : L2.atI (TH a b t) (j : Int) = some (.tup a [.tup b (I p.1), .int p.2]) := atI_nat (by unfold TH; rw [List.getElem?_map, hj]; rfl)
      have hhp : L2.atI (heaps t (ds.take i)) (j : Int) = some (.lst (I (lotCards p.1 p.2 (ds.take i)))) := atI_nat (by unfold heaps; rw [List.getElem?_map, hj]; rfl)
      have ey := ev_ifM (t := testM (op2M eqD (op2M ixD (op2M ixD (varM 0) (varM 6)) (pureM (.int 1))) (pureM (.int 1)))) (a := op2M addD (ownIxM 5 (varM 6)) (ofLM (fitM (consM (varM 8) (pureM []))))) (b := op2M addD (ofLM (fitM (consM (varM 8) (pureM [])))) (ownIxM 5 (varM 6))) (st := ⟨s, [.dat (.tup c (TH a b t)), .dat (.tup e (I ds)), .un, .un, .ownd kvs, .own (heaps t (ds.take i)), .dat (.int (j : Nat)), .dat (.int k), .dat (.int (i : Nat)), x9, x10]⟩)
        (c := p.2 == 1) (x := .lst (I (lotCards p.1 p.2 (ds.take i) ++ [(i : Int)]))) (y := .lst (I ((i : Int) :: lotCards p.1 p.2 (ds.take i)))) (ev_test (ev_op2 (ev_op2 (ev_op2 (ev_var rfl) (ev_var rfl) hix) ev_pure rfl) ev_pure eqD_ii))
        (fun _ => ev_op2 (ev_ownIx rfl (ev_var rfl) hhp) (ev_ofL (ev_fit (ev_cons (ev_var rfl) ev_nil) (by rw [sizeLine_eq]; simp))) ?_) (fun _ => ev_op2 (ev_ofL (ev_fit (ev_cons (ev_var rfl) ev_nil) (by rw [sizeLine_eq]; simp))) (ev_ownIx rfl (ev_var rfl) hhp) ?_)
      refine wpe_asg ey (wps_ownSet (j := j) rfl (ev_var rfl) ?_ (wp_pure.mpr ⟨.dat (.int (j : Nat)), .dat (.int k), .dat (.int (i : Nat)), ?_⟩))
      · rw [ixN_in (by omega) (by unfold heaps; rw [List.length_map]; omega), Int.toNat_natCast]
      · show Sta.mk s [_, _, _, _, _, Slot.own ((heaps t (ds.take i)).set j _), _, _, _, _, _] = Sta.mk s [_, _, _, _, _, Slot.own (heaps t (ds.take (i + 1))), _, _, _, _, _]
        have : (heaps t (ds.take i)).set j (if (p.2 == 1) = true then .lst (I (lotCards p.1 p.2 (ds.take i) ++ [(i : Int)])) else .lst (I ((i : Int) :: lotCards p.1 p.2 (ds.take i)))) = heaps t (ds.take (i + 1)) := by
          have hlen : (ds.take i).length = i := by rw [List.length_take]; omega
          apply List.ext_getElem?
          intro m
          by_cases hm : j = m
          · subst hm
            rw [List.getElem?_set_self (by unfold heaps; rw [List.length_map]; exact hjt)]
            unfold heaps
            rw [List.getElem?_map, hj, List.take_add_one, hk]
            show _ = some (D.lst (I (lotCards p.1 p.2 (ds.take i ++ [k]))))
            unfold lotCards
            rw [places_snoc, if_pos hkp, hlen]
            by_cases hg : p.2 = 1
            · simp only [hg, if_true, beq_self_eq_true]
            · have : (p.2 == 1) = false := by simpa using hg
              simp only [hg, this, if_false, Bool.false_eq_true, List.reverse_append, List.reverse_cons, List.reverse_nil, List.nil_append, List.cons_append]
          · rw [List.getElem?_set_ne hm]
            unfold heaps
            rw [List.getElem?_map, List.getElem?_map, List.take_add_one, hk]
            cases hq : t[m]? with
            | none => rfl
            | some q =>
              show some (D.lst (I (lotCards q.1 q.2 (ds.take i)))) = some (D.lst (I (lotCards q.1 q.2 (ds.take i ++ [k]))))
              have : k ∉ q.1 := fun hkq => by
                have nd := (List.pairwise_flatMap.mp h.ord.nodup).2
                have hmt := (List.getElem?_eq_some_iff.mp hq).1
                rcases Nat.lt_or_gt_of_ne hm with hlt | hlt
                · have := List.pairwise_iff_getElem.mp nd j m hjt hmt hlt
                  rw [(List.getElem?_eq_some_iff.mp hj).2, (List.getElem?_eq_some_iff.mp hq).2] at this
                  exact this k hkp k hkq rfl
                · have := List.pairwise_iff_getElem.mp nd m j hmt hjt hlt
                  rw [(List.getElem?_eq_some_iff.mp hj).2, (List.getElem?_eq_some_iff.mp hq).2] at this
                  exact this k hkq k hkp rfl
              unfold lotCards
              rw [places_snoc, if_neg this, List.append_nil]
        rw [this]
      · have hlc := lotCards_len (l := p.1) (g := p.2) (ds := ds.take i)
        rw [List.length_take] at hlc
        rw [cat_ok (by rw [lenI]; simp only [List.length_cons, List.length_nil]; omega)]
        unfold I
        rw [List.map_append]; rfl
      · have hlc := lotCards_len (l := p.1) (g := p.2) (ds := ds.take i)
        rw [List.length_take] at hlc
        rw [cat_ok (by rw [lenI]; simp only [List.length_cons, List.length_nil]; omega)]
        rfl
    · rintro st ⟨x6, x7, x8, rfl⟩
      rw [enumL_len, lenI, List.take_length]
      refine wps_own (wps_fit ((ev_pure (x := ([] : List D))).wp ⟨Nat.zero_le _, ?_⟩))
      show Wp _ ⟨s, [.dat (.tup c (TH a b t)), .dat (.tup e (I ds)), .own [], .un, .ownd kvs, .own (heaps t ds), x6, x7, x8, x9, x10]⟩ _
      refine wps_for (ds := heaps t ds) (st := ⟨s, [.dat (.tup c (TH a b t)), .dat (.tup e (I ds)), .own [], .un, .ownd kvs, .dat (.lst (heaps t ds)), x6, x7, x8, x9, x10]⟩) (fun i st => ∃ x3, st = ⟨s, [.dat (.tup c (TH a b t)), .dat (.tup e (I ds)), .own (I (ordT (t.take i) ds)), x3, .ownd kvs, .dat (.lst (heaps t ds)), x6, x7, x8, x9, x10]⟩) rfl ⟨.un, rfl⟩ ?_ ?_
      · rintro i x st hx ⟨x3, rfl⟩
        unfold heaps at hx
        rw [List.getElem?_map] at hx
        cases hq : t[i]? with
        | none => rw [hq] at hx; cases hx
        | some p =>
          rw [hq] at hx
          cases hx
          refine tg1.mono fun _ st e => ?_
          subst e
          refine wps_drop (wps_mut rfl ((ev_cons (ev_var rfl) ev_nil).wp ⟨_, rfl, .non, I (ordT (t.take (i + 1)) ds), ?_, wp_pure.mpr ⟨_, rfl⟩⟩))
          have h1 := lotCards_len (l := p.1) (g := p.2) (ds := ds)
          have h2 := ordT_le (ds := ds) (t := t.take i)
          have h3 : (t.take i).length * ds.length ≤ 8 * 60 := Nat.mul_le_mul (by rw [List.length_take]; omega) hd60
          rw [extend_ok (by rw [lenI, lenI]; omega), List.take_add_one, hq]
          have : ordT (t.take i ++ [p]) ds = ordT (t.take i) ds ++ lotCards p.1 p.2 ds := by
            unfold ordT
            rw [List.flatMap_append]
            simp
          rw [show (some p).toList = [p] from rfl, this]
          unfold I
          rw [List.map_append]
      · rintro st ⟨x3, rfl⟩
        have hl : (heaps t ds).length = t.length := by unfold heaps; rw [List.length_map]
        rw [hl, List.take_length]
        exact wps_ret (wp_callD.mpr (wp_cons.mpr ((wp_varO rfl).mpr (wp_pure.mpr ⟨_, rfl, rfl, rfl⟩))))
theorem size2_ok {n : Nat} {t : Th} {a b c : Bool} {s : S} (h : IsTh n t) : r_Llaw_size [.tup c (TH a b t)] s = some (.int (n : Int), s) := by
  refine run_ev rfl ?_
  unfold b_Llaw_size
  show Wp _ ⟨s, [.dat (.tup c (TH a b t)), .un, .un]⟩ _
  have ek : Ev (compM (seqI (varM 0)) (tgT [tgN 1, tgN 2]) (pureM true) (callD lenD (consM (varM 1) (pureM []))) [1, 2]) ⟨s, [.dat (.tup c (TH a b t)), .un, .un]⟩ (I (t.map fun p => (p.1.length : Int))) := by
    rw [← lens_TH (a := a) (b := b)]
    refine ev_map (fun x => match x with | .tup _ [u, v] => [.dat (.tup c (TH a b t)), .dat u, .dat v] | _ => []) _ (ev_seq (ev_var rfl) rfl) ?_ rfl rfl ?_ ?_ ?_
    · rw [th_len, sizeLine_eq]; have := h.len; omega
    all_goals
      intro x hx
      obtain ⟨l, g, hm, rfl⟩ := TH_mem hx
      first
        | exact tg2
        | rfl
        | exact ev_callD (ev_cons (ev_var rfl) ev_nil) lenD_t
  refine wpe_ret (ev_callD (ev_cons (ev_ofL ek) ev_nil) ?_) ⟨rfl, rfl⟩
  show (intsD (I (t.map fun p => (p.1.length : Int)))).map (fun ns => D.int ns.sum) = _
  rw [show intsD (I (t.map fun p => (p.1.length : Int))) = some _ from intsD_of _, Option.map_some, sum_lens, h.kindsLen]
theorem way2_ok {n : Nat} {t : Th} {a b c : Bool} {k l : Int} {s : S} (h : IsTh n t) (hk : 0 ≤ k ∧ k < n) (hl : 0 ≤ l ∧ l < n) : r_Llaw_way [.tup c (TH a b t), .int k, .int l] s = some (.str (wayT t k l), s) := by
  refine run_ev rfl ?_
  unfold b_Llaw_way
  show Wp _ ⟨s, [.dat (.tup c (TH a b t)), .dat (.int k), .dat (.int l), .un, .un, .un, .un, .un]⟩ _
  have comp : ∀ (v : Nat) (k : Int) (x3 : Slot), ([.dat (.tup c (TH a b t)), .dat (.int k), .dat (.int l), x3, .un, .un, .un, .un] : List Slot) = [.dat (.tup c (TH a b t)), .dat (.int k), .dat (.int l), x3, .un, .un, .un, .un] := fun _ _ _ => rfl
  have ek : ∀ (v : Nat) (q k1 k2 : Int) (x3 : Slot), ([.dat (.tup c (TH a b t)), .dat (.int k1), .dat (.int k2)] : List Slot)[v]? = some (.dat (.int q)) → Ev (compM (itM enumD (consM (varM 0) (pureM []))) (tgT [tgN 5, tgT [tgN 6, tgN 7]]) (testM (op2M (inD false) (varM v) (varM 6))) (varM 5) [5, 6, 7]) ⟨s, [.dat (.tup c (TH a b t)), .dat (.int k1), .dat (.int k2), x3, .un, .un, .un, .un]⟩ (I (spotsT t q)) := by
    intro v q k1 k2 x3 hv
    rw [← spots_comp (a := a) (b := b)]
    refine ev_comp (fun x => match x with | .tup _ [u, .tup _ [l, g]] => [.dat (.tup c (TH a b t)), .dat (.int k1), .dat (.int k2), x3, .un, .dat u, .dat l, .dat g] | _ => []) _ _ (ev_it (ev_cons (ev_var rfl) ev_nil) rfl) ?_ rfl rfl ?_ ?_ ?_ ?_
    · rw [enumL_len, th_len, sizeLine_eq]; have := h.len; omega
    all_goals
      intro x hx
      rw [enum_T] at hx
      obtain ⟨p, hm, rfl⟩ := List.mem_map.mp hx
      first
        | exact tg12
        | rfl
        | (intro _; exact ev_var rfl)
        | (have hv' : ([.dat (.tup c (TH a b t)), .dat (.int k1), .dat (.int k2), x3, .un, .dat (.int (p.2 : Nat)), .dat (.tup b (I p.1.1)), .dat (.int p.1.2)] : List Slot)[v]? = some (.dat (.int q)) := by
             match v, hv with
             | 0, hv => cases hv
             | 1, hv => exact hv
             | 2, hv => exact hv
             | v + 3, hv => simp at hv
           refine ev_test (ev_op2 (ev_var hv') (ev_var rfl) ?_)
           rw [in_I']
           show _ = some (D.bl (match intsD (I p.1.1) with | some ns => decide (q ∈ ns) | none => false))
           rw [show intsD (I p.1.1) = some p.1.1 from intsD_of _])
  refine wpe_set (ev_op2 (ev_ofL (ek 1 k k l .un rfl)) ev_pure (spots_head h hk.1 hk.2)) ?_
  refine wpe_set (ev_op2 (ev_ofL (ek 2 l k l (.dat (.int (posT t k : Nat))) rfl)) ev_pure (spots_head h hl.1 hl.2)) ?_
  obtain ⟨p, hp, _⟩ := h.at hk.1 hk.2
  refine wpe_if (ev_test (ev_op2 (ev_var rfl) (ev_var rfl) neD_ii)) ?_
  unfold wayT
  by_cases c0 : posT t k = posT t l
  · rw [if_neg (by simp [c0]), if_neg (by omega), if_neg (by omega)]
    refine wpe_ret (ev_ifM (ev_test (ev_op2 (ev_op2 (ev_op2 (ev_var rfl) (ev_var rfl) (ix_TH hp)) ev_pure rfl) ev_pure eqD_ii)) (fun _ => ev_pure) fun _ => ev_pure) ⟨?_, rfl⟩
    unfold signT
    rw [hp]
    by_cases c3 : p.2 = 1
    · simp [c3]
    · simp [c3]
  · rw [if_pos (by simp; omega)]
    refine wpe_ret (ev_ifM (ev_test (ev_op2 (ev_var rfl) (ev_var rfl) ltD_ii)) (fun _ => ev_pure) fun _ => ev_pure) ⟨?_, rfl⟩
    by_cases c1 : posT t k < posT t l
    · rw [if_pos (decide_eq_true (by omega)), if_pos c1]
    · rw [if_neg (by simpa using c1), if_neg c1, if_pos (by omega)]
end GA.k06

set_option Elab.async false
set_option linter.all false
set_option maxRecDepth 100000
set_option maxHeartbeats 2000000
namespace GA.k06
open PySem PySem.Spec PyProof.Rows L2 GenW HT GA.P
theorem ord_sm {t : Th} {n : Nat} {ds : List Int} (h : IsTh n t) (hd : Dk n ds) : Sm (ordT t ds) := (ordT_ord h hd.2).sm (by rw [ordT_len h hd.2]; exact hd.1)
theorem near_dk {t : Th} {n : Nat} {ds : List Int} (h : IsTh n t) (hd : Dk n ds) : Dk n (app ds (ordT t ds)) := hd.app (ordT_ord h hd.2) (ordT_len h hd.2)
theorem near_asc {t : Th} {n : Nat} {ds : List Int} (h : IsTh n t) : ((app ds (ordT t ds)).map fun k => posT t k).Pairwise (· ≤ ·) := by
  have := lots_asc (ds := ds) h.ord.nodup
  unfold app
  rw [List.map_map]
  exact this
theorem after_right {n : Nat} {t : Th} {ds : List Int} {a b c : Bool} {s : S} (h : IsTh n t) (hd : Dk n ds) : r_Llaw_is_after_right [.tup c (TH a b t), .tup true (I ds)] s = some (.bl true, s) := by
  have hn1 := h.n1
  have hn8 := h.n8
  have hl := ordT_len h hd.2
  have ho := ordT_ord h hd.2
  have h60 := hd.1
  have nd := near_dk h hd
  have s1 := ord_sm h hd
  have s2 : Sm (app ds (ordT t ds)) := nd.sm hn8
  have s4 : Sm (counts n ds) := counts_sm hn8 h60
  have qc : counts n (app ds (ordT t ds)) = counts n ds := counts_perm (app_perm ho hl)
  have c0 : ∀ {c s}, r_Llaw_size [.tup c (TH a b t)] s = some (.int (n : Int), s) := size2_ok h
  have c1 : ∀ {c e s}, r_Llaw_after [.tup c (TH a b t), .tup e (I ds)] s = some (.tup true (I (ordT t ds)), s) := after_ok h hd
  have c2 : ∀ {c e s}, r_order_after [.tup c (TH a b t), .tup e (I ds)] s = some (.tup true (I (ordT t ds)), s) := order_after_ok h hd
  have c3 : ∀ {c e s}, r_deck_after [.tup c (TH a b t), .tup e (I ds)] s = some (.tup true (I (app ds (ordT t ds))), s) := deck_after_ok h hd
  have c4 : ∀ {b c s}, r_laid [.tup b (I ds), .tup c (I (ordT t ds))] s = some (.tup true (I (app ds (ordT t ds))), s) := laid_ok (fun k hk => by have := hd.2 k hk; omega) ho hl h60
  have c5 : ∀ {b c s}, r_Llaw_laid [.tup b (I ds), .tup c (I (ordT t ds))] s = some (.tup true (I (app ds (ordT t ds))), s) := laid2_ok (fun k hk => by have := ho.range k hk; omega) (by omega)
  have c6 : ∀ {s}, r_counts_of [.int (n : Int), .tup true (I (app ds (ordT t ds)))] s = some (.tup true (I (counts n (app ds (ordT t ds)))), s) := counts_ok (by omega) nd.1 nd.2
  have c7 : ∀ {s}, r_counts_of [.int (n : Int), .tup true (I ds)] s = some (.tup true (I (counts n ds)), s) := counts_ok (by omega) hd.1 hd.2
  have c8 : ∀ {c s}, r_can_come [.tup c (TH a b t), .tup true (I (app ds (ordT t ds)))] s = some (.bl true, s) := can_come_ok (ds := ds) h nd (near_asc h)
  have c9 : ∀ {c s}, r_size_of [.tup c (TH a b t)] s = some (.int (n : Int), s) := size_of_ok h
  refine run_ev rfl ?_
  unfold b_Llaw_is_after_right
  have a1 : Ev (xDat (callM 1 r_Llaw_size (consM (varM 0) (pureM []))) (xDat (callM 2 r_Llaw_after (consM (varM 0) (consM (varM 1) (pureM [])))) (pureM []))) ⟨s, [.dat (.tup c (TH a b t)), .dat (.tup true (I ds)), .un, .un, .un]⟩ [.dat (.int n), .dat (.tup true (I (ordT t ds)))] := ev_bind (by (repeat' (first | with_reducible exact ev_nil | (with_reducible apply ev_var; exact rfl) | with_reducible apply ev_cons | with_reducible apply ev_tup | (rw [sizeLine_eq]; simp only [List.length_cons, List.length_nil]; omega) | with_reducible apply ev_call | with_reducible apply ev_pick | with_reducible exact pick10 | with_reducible exact pick_0 | with_reducible apply ev_turn | with_reducible apply ev_tupRg | with_reducible apply ev_op2 | with_reducible apply ev_callD | with_reducible apply ev_test | with_reducible apply ev_ofL | with_reducible exact ev_pure | with_reducible exact c0 | exact rfl))) (ev_bind (ev_bind (by (repeat' (first | with_reducible exact ev_nil | (with_reducible apply ev_var; exact rfl) | with_reducible apply ev_cons | with_reducible apply ev_tup | (rw [sizeLine_eq]; simp only [List.length_cons, List.length_nil]; omega) | with_reducible apply ev_call | with_reducible apply ev_pick | with_reducible exact pick10 | with_reducible exact pick_0 | with_reducible apply ev_turn | with_reducible apply ev_tupRg | with_reducible apply ev_op2 | with_reducible apply ev_callD | with_reducible apply ev_test | with_reducible apply ev_ofL | with_reducible exact ev_pure | with_reducible exact c1 | exact rfl))) (ev_bind ev_pure ev_pure)) ev_pure)
  refine wps_parM (a1.wp ⟨rfl, ?_⟩)
  show Wp _ ⟨s, [.dat (.tup c (TH a b t)), .dat (.tup true (I ds)), .un, .dat (.int n), .dat (.tup true (I (ordT t ds)))]⟩ _
  refine wpe_pass (ev_reprNe (p := .tuple [py (ordT t ds), py (ordT t ds)]) (by (repeat' (first | with_reducible exact ev_nil | (with_reducible apply ev_var; exact rfl) | with_reducible apply ev_cons | with_reducible apply ev_tup | (rw [sizeLine_eq]; simp only [List.length_cons, List.length_nil]; omega) | with_reducible apply ev_call | with_reducible apply ev_pick | with_reducible exact pick10 | with_reducible exact pick_0 | with_reducible apply ev_turn | with_reducible apply ev_tupRg | with_reducible apply ev_op2 | with_reducible apply ev_callD | with_reducible apply ev_test | with_reducible apply ev_ofL | with_reducible exact ev_pure | with_reducible exact c2 | exact rfl))) (by (repeat' (first | with_reducible exact ev_nil | (with_reducible apply ev_var; exact rfl) | with_reducible apply ev_cons | with_reducible apply ev_tup | (rw [sizeLine_eq]; simp only [List.length_cons, List.length_nil]; omega) | with_reducible apply ev_call | with_reducible apply ev_pick | with_reducible exact pick10 | with_reducible exact pick_0 | with_reducible apply ev_turn | with_reducible apply ev_tupRg | with_reducible apply ev_op2 | with_reducible apply ev_callD | with_reducible apply ev_test | with_reducible apply ev_ofL | with_reducible exact ev_pure | with_reducible exact c2 | exact rfl))) rfl rfl (toPy_tup (toPys_cons (toPy_I' rfl) (toPys_cons (toPy_I' rfl) toPys_nil))) (toPy_tup (toPys_cons (toPy_I' rfl) (toPys_cons (toPy_I' rfl) toPys_nil))) (shows_py (by simp) (by simp only [List.mem_cons, List.not_mem_nil, or_false]; rintro p (rfl | rfl) <;> exact sm_py (by assumption)))) ?_
  refine wpe_set (x := .tup true (I (app ds (ordT t ds)))) (by (repeat' (first | with_reducible exact ev_nil | (with_reducible apply ev_var; exact rfl) | with_reducible apply ev_cons | with_reducible apply ev_tup | (rw [sizeLine_eq]; simp only [List.length_cons, List.length_nil]; omega) | with_reducible apply ev_call | with_reducible apply ev_pick | with_reducible exact pick10 | with_reducible exact pick_0 | with_reducible apply ev_turn | with_reducible apply ev_tupRg | with_reducible apply ev_op2 | with_reducible apply ev_callD | with_reducible apply ev_test | with_reducible apply ev_ofL | with_reducible exact ev_pure | with_reducible exact c3 | exact rfl))) ?_
  show Wp _ ⟨s, [.dat (.tup c (TH a b t)), .dat (.tup true (I ds)), .dat (.tup true (I (app ds (ordT t ds)))), .dat (.int n), .dat (.tup true (I (ordT t ds)))]⟩ _
  have t3 : ∀ {x y z : Bool}, toPy (.tup false [.tup x (I (app ds (ordT t ds))), .tup y (I (app ds (ordT t ds))), .tup z (I (app ds (ordT t ds)))]) = some (.tuple [py (app ds (ordT t ds)), py (app ds (ordT t ds)), py (app ds (ordT t ds))]) := toPy_tup (toPys_cons (toPy_I' rfl) (toPys_cons (toPy_I' rfl) (toPys_cons (toPy_I' rfl) toPys_nil)))
  refine wpe_pass (ev_reprNe (p := .tuple [py (app ds (ordT t ds)), py (app ds (ordT t ds)), py (app ds (ordT t ds))]) (by (repeat' (first | with_reducible exact ev_nil | (with_reducible apply ev_var; exact rfl) | with_reducible apply ev_cons | with_reducible apply ev_tup | (rw [sizeLine_eq]; simp only [List.length_cons, List.length_nil]; omega) | with_reducible apply ev_call | with_reducible apply ev_pick | with_reducible exact pick10 | with_reducible exact pick_0 | with_reducible apply ev_turn | with_reducible apply ev_tupRg | with_reducible apply ev_op2 | with_reducible apply ev_callD | with_reducible apply ev_test | with_reducible apply ev_ofL | with_reducible exact ev_pure | with_reducible exact c3 | with_reducible exact c4 | exact rfl))) (ev_op2 (x := .tup false [.tup true (I (app ds (ordT t ds)))]) (by (repeat' (first | with_reducible exact ev_nil | (with_reducible apply ev_var; exact rfl) | with_reducible apply ev_cons | with_reducible apply ev_tup | (rw [sizeLine_eq]; simp only [List.length_cons, List.length_nil]; omega) | with_reducible apply ev_call | with_reducible apply ev_pick | with_reducible exact pick10 | with_reducible exact pick_0 | with_reducible apply ev_turn | with_reducible apply ev_tupRg | with_reducible apply ev_op2 | with_reducible apply ev_callD | with_reducible apply ev_test | with_reducible apply ev_ofL | with_reducible exact ev_pure | with_reducible exact c5 | exact rfl))) ev_pure rep3) rfl rfl t3 t3 (shows_py (by simp) (by simp only [List.mem_cons, List.not_mem_nil, or_false]; rintro p (rfl | rfl | rfl) <;> exact sm_py (by assumption)))) ?_
  have t4 : ∀ {ns : List Int}, ns = counts n ds → toPy (.tup false [.tup true (I ns), .bl true, .int (n : Int)]) = some (.tuple [py (counts n ds), .bool true, .int (n : Int)]) := fun e => toPy_tup (toPys_cons (toPy_I' e) (toPys_cons rfl (toPys_cons rfl toPys_nil)))
  refine wpe_ret (ev_reprEq (p := .tuple [py (counts n ds), .bool true, .int (n : Int)]) (by (repeat' (first | with_reducible exact ev_nil | (with_reducible apply ev_var; exact rfl) | with_reducible apply ev_cons | with_reducible apply ev_tup | (rw [sizeLine_eq]; simp only [List.length_cons, List.length_nil]; omega) | with_reducible apply ev_call | with_reducible apply ev_pick | with_reducible exact pick10 | with_reducible exact pick_0 | with_reducible apply ev_turn | with_reducible apply ev_tupRg | with_reducible apply ev_op2 | with_reducible apply ev_callD | with_reducible apply ev_test | with_reducible apply ev_ofL | with_reducible exact ev_pure | with_reducible exact c6 | with_reducible exact c8 | with_reducible exact c9 | exact rfl))) (by (repeat' (first | with_reducible exact ev_nil | (with_reducible apply ev_var; exact rfl) | with_reducible apply ev_cons | with_reducible apply ev_tup | (rw [sizeLine_eq]; simp only [List.length_cons, List.length_nil]; omega) | with_reducible apply ev_call | with_reducible apply ev_pick | with_reducible exact pick10 | with_reducible exact pick_0 | with_reducible apply ev_turn | with_reducible apply ev_tupRg | with_reducible apply ev_op2 | with_reducible apply ev_callD | with_reducible apply ev_test | with_reducible apply ev_ofL | with_reducible exact ev_pure | with_reducible exact c7 | exact rfl))) rfl rfl (t4 qc) (t4 rfl) (shows_py (by simp) ?_)) ⟨rfl, rfl⟩
  simp only [List.mem_cons, List.not_mem_nil, or_false]
  rintro p (rfl | rfl | rfl)
  · exact sm_py s4
  · exact shows_bool.mono (by omega) (by omega)
  · exact (shows_int (by omega) (by omega)).mono (by omega) (by omega)
/-! two cards -/
def cardPairs (os : List Int) : List (Key × D) := os.zipIdx.map fun p => (.inl p.1, .int (p.2 : Nat))
theorem pairs_ok : ∀ (os : List Int) (m : Nat), pairsD ((os.zipIdx m).map fun p => .tup false [.int p.1, .int (p.2 : Nat)]) = some ((os.zipIdx m).map fun p => (Sum.inl p.1, .int (p.2 : Nat)))
  | [], _ => rfl
  | o :: os, m => by
    rw [List.zipIdx_cons, List.map_cons, List.map_cons]
    show ((keyD (.int o)).bind fun j => (pairsD ((os.zipIdx (m + 1)).map fun p => .tup false [.int p.1, .int (p.2 : Nat)])).map ((j, D.int (m : Nat)) :: ·)) = _
    rw [pairs_ok os (m + 1)]
    rfl
theorem keys_nodup {os : List Int} (h : os.Nodup) : ((cardPairs os).map (·.1)).Nodup := by
  have : (cardPairs os).map (·.1) = os.map fun o => (Sum.inl o : Key) := by
    unfold cardPairs
    rw [List.map_map]
    have : os = os.zipIdx.map (·.1) := by rw [List.zipIdx_map_fst]
    conv => rhs; rw [this, List.map_map]
    rfl
  rw [this]
  exact List.pairwise_map.mpr (h.imp fun h e => h (Sum.inl.inj e))
theorem spot_ok {os : List Int} (h : os.Nodup) {c : Int} (hc : c ∈ os) : getP (mergeP [] (cardPairs os)) (.inl c) = some (.int (os.idxOf c : Nat)) := by
  refine merge_mem (keys_nodup h) ?_
  obtain ⟨j, hj⟩ := List.mem_iff_getElem?.mp hc
  rw [idx_at h hj]
  exact List.mem_map.mpr ⟨(c, j), List.mem_zipIdx_iff_getElem?.mpr hj, rfl⟩
theorem sort_two (a b : Int) : ∃ i j, sortI [a, b] = [i, j] ∧ i ≤ j ∧ (i = a ∨ i = b) ∧ (j = a ∨ j = b) := by
  have hp := sortI_perm [a, b]
  have hs := sortI_sorted [a, b]
  have hl := hp.length_eq
  match hq : sortI [a, b], hl with
  | [i, j], _ =>
    rw [hq] at hp hs
    refine ⟨i, j, rfl, (List.pairwise_cons.mp hs).1 j (by simp), ?_, ?_⟩
    · have := hp.mem_iff.mp (show i ∈ [i, j] by simp)
      simpa using this
    · have := hp.mem_iff.mp (show j ∈ [i, j] by simp)
      simpa using this
theorem twos_right {n : Nat} {t : Th} {ds : List Int} {a b c : Bool} {s : S} (h : IsTh n t) (hd : Dk n ds) (g : Good 30 s) : ∃ s', r_Llaw_are_twos_right [.raw (.ref s.dk), .tup c (TH a b t), .tup true (I ds)] s = some (.bl true, s') ∧ Adv 30 s s' := by
  have := run_of (n := 11) (np := 3) (body := b_Llaw_are_twos_right) (ds := [.raw (.ref s.dk), .tup c (TH a b t), .tup true (I ds)]) (s := s) (Q := fun d s' => d = .bl true ∧ Adv 30 s s') rfl ?_
  · obtain ⟨d, s', e, rfl, h⟩ := this
    exact ⟨s', e, h⟩
  have hn1 := h.n1
  have hn8 := h.n8
  have hl := ordT_len h hd.2
  have ho := ordT_ord h hd.2
  have h60 := hd.1
  unfold b_Llaw_are_twos_right
  show Wp _ ⟨s, [.dat (.raw (.ref s.dk)), .dat (.tup c (TH a b t)), .dat (.tup true (I ds)), .un, .un, .un, .un, .un, .un, .un, .un]⟩ _
  refine wpe_set (ev_call (ev_cons (ev_var rfl) (ev_cons (ev_var rfl) ev_nil)) (order_after_ok h hd) rfl) ?_
  show Wp _ ⟨s, [.dat (.raw (.ref s.dk)), .dat (.tup c (TH a b t)), .dat (.tup true (I ds)), .dat (.tup true (I (ordT t ds))), .un, .un, .un, .un, .un, .un, .un]⟩ _
  have ek : Ev (compM (itM enumD (consM (varM 3) (pureM []))) (tgT [tgN 9, tgN 10]) (pureM true) (tupM (consM (varM 10) (consM (varM 9) (pureM [])))) [9, 10]) ⟨s, [.dat (.raw (.ref s.dk)), .dat (.tup c (TH a b t)), .dat (.tup true (I ds)), .dat (.tup true (I (ordT t ds))), .un, .un, .un, .un, .un, .un, .un]⟩ ((ordT t ds).zipIdx.map fun p => .tup false [.int p.1, .int (p.2 : Nat)]) := by
    have := ev_map (s := s) (k := tgT [tgN 9, tgN 10]) (te := tupM (consM (varM 10) (consM (varM 9) (pureM [])))) (it := itM enumD (consM (varM 3) (pureM []))) (vs := [9, 10]) (ds := enumL (I (ordT t ds))) (r := [.dat (.raw (.ref s.dk)), .dat (.tup c (TH a b t)), .dat (.tup true (I ds)), .dat (.tup true (I (ordT t ds))), .un, .un, .un, .un, .un, .un, .un])
      (fun x => match x with | .tup _ [u, v] => [.dat (.raw (.ref s.dk)), .dat (.tup c (TH a b t)), .dat (.tup true (I ds)), .dat (.tup true (I (ordT t ds))), .un, .un, .un, .un, .un, .dat u, .dat v] | _ => []) (fun x => match x with | .tup _ [u, v] => .tup false [v, u] | x => x)
      (ev_it (ev_cons (ev_var rfl) ev_nil) rfl) (by rw [enumL_len, lenI, hl, sizeLine_eq]; omega) rfl rfl ?_ ?_ ?_
    · rw [enum_I, List.map_map] at this
      exact this
    all_goals
      intro x hx
      rw [enum_I] at hx
      obtain ⟨p, hm, rfl⟩ := List.mem_map.mp hx
      first
        | exact tg2
        | rfl
        | exact ev_tup (ev_cons (ev_var rfl) (ev_cons (ev_var rfl) ev_nil)) two_le
  refine wp_seq.mpr ?_
  unfold ownDM dictPM
  refine wp_bind.mpr (wp_bind.mpr ((ev_cons (ev_ofL ek) ev_nil).wp (wp_lift.mpr ⟨mergeP [] (cardPairs (ordT t ds)), ?_, _, _, rfl, ?_⟩)))
  · show (pairsD _).map (mergeP []) = _
    rw [pairs_ok]; rfl
  show Wp _ ⟨s, [.dat (.raw (.ref s.dk)), .dat (.tup c (TH a b t)), .dat (.tup true (I ds)), .dat (.tup true (I (ordT t ds))), .ownd (mergeP [] (cardPairs (ordT t ds))), .un, .un, .un, .un, .un, .un]⟩ _
  have er : Ev (itM rng1D (consM (ifM (testM (op2M gtD (callD lenD (consM (varM 2) (pureM []))) (pureM (.int 1)))) (pureM (.int 12)) (pureM (.int 0))) (pureM []))) ⟨s, [.dat (.raw (.ref s.dk)), .dat (.tup c (TH a b t)), .dat (.tup true (I ds)), .dat (.tup true (I (ordT t ds))), .ownd (mergeP [] (cardPairs (ordT t ds))), .un, .un, .un, .un, .un, .un]⟩ (I (row (if 1 < ds.length then 12 else 0))) := by
    have h1 := ev_ifM (t := testM (op2M gtD (callD lenD (consM (varM 2) (pureM []))) (pureM (.int 1)))) (a := pureM (D.int 12)) (b := pureM (.int 0)) (st := ⟨s, [.dat (.raw (.ref s.dk)), .dat (.tup c (TH a b t)), .dat (.tup true (I ds)), .dat (.tup true (I (ordT t ds))), .ownd (mergeP [] (cardPairs (ordT t ds))), .un, .un, .un, .un, .un, .un]⟩)
      (ev_test (ev_op2 (ev_callD (ev_cons (ev_var rfl) ev_nil) (show lenD [.tup true (I ds)] = some (.int (ds.length : Int)) from by rw [lenD_t, lenI])) ev_pure gtD_ii)) (fun _ => ev_pure) (fun _ => ev_pure)
    refine ev_it (ev_cons h1 ev_nil) ?_
    by_cases c1 : 1 < ds.length
    · rw [if_pos (decide_eq_true (by omega)), if_pos c1]; exact rng1_row (n := 12) (by omega)
    · rw [if_neg (by rw [decide_eq_false (by omega)]; decide), if_neg c1]; exact rng1_row (n := 0) (by omega)
  refine wps_for (fun i st => ∃ s1 x5 x6 x7 x8, st = ⟨s1, [.dat (.raw (.ref s.dk)), .dat (.tup c (TH a b t)), .dat (.tup true (I ds)), .dat (.tup true (I (ordT t ds))), .ownd (mergeP [] (cardPairs (ordT t ds))), x5, x6, x7, x8, .un, .un]⟩ ∧ Adv (2 * i) s s1) er ⟨s, _, _, _, _, rfl, Adv.refl s⟩ ?_ ?_
  · rintro i x st hx ⟨s1, x5, x6, x7, x8, rfl, a1⟩
    have hi : i < if 1 < ds.length then 12 else 0 := by
      have := (List.getElem?_eq_some_iff.mp hx).1
      rwa [lenI, row_len] at this
    have hlen : 1 < ds.length := by
      by_cases c1 : 1 < ds.length
      · exact c1
      · rw [if_neg c1] at hi; omega
    rw [if_pos hlen] at hi
    refine tg1.mono fun _ st e => ?_
    subst e
    have el : ∀ (s1 : S) (x5 x6 x7 x8 : Slot), Ev (callD lenD (consM (varM 2) (pureM []))) ⟨s1, [.dat (.raw (.ref s.dk)), .dat (.tup c (TH a b t)), .dat (.tup true (I ds)), .dat (.tup true (I (ordT t ds))), .ownd (mergeP [] (cardPairs (ordT t ds))), x5, x6, x7, x8, .un, .un]⟩ (.int (ds.length : Int)) := fun s1 x5 x6 x7 x8 => ev_callD (ev_cons (ev_var rfl) ev_nil) (by rw [lenD_t, lenI])
    refine wps_asg (wps_ofL ?_)
    unfold callL
    refine wp_bind.mpr (wp_cons.mpr (wps_ofL (wps_fit (wp_cons.mpr (wps_draw (dk := s.dk) rfl a1.dk.symm (el s1 (.dat x) x6 x7 x8) (by omega) (by omega) (a1.good 1 (g.mono (by omega))) fun u s2 u0 u1 a2 => wp_cons.mpr (wps_draw (dk := s.dk) rfl (a1.trans a2).dk.symm (el s2 (.dat x) x6 x7 x8) (by omega) (by omega) ((a1.trans a2).good 1 (g.mono (by omega))) fun v s3 v0 v1 a3 => wp_pure.mpr ⟨two_le, wp_pure.mpr (wp_lift.mpr ?_)⟩))))))
    have a13 := (a1.trans a2).trans a3
    obtain ⟨p, q, eq, hpq, hp, hq⟩ := sort_two u v
    refine ⟨[.int p, .int q], ?_, ?_⟩
    · show (if [u, v].length ≤ sizeLine then some ((sortI [u, v]).map D.int) else none) = _
      rw [if_pos (show [u, v].length ≤ sizeLine from two_le), eq]; rfl
    have hp' : 0 ≤ p ∧ p < ds.length := by rcases hp with rfl | rfl <;> omega
    have hq' : 0 ≤ q ∧ q < ds.length := by rcases hq with rfl | rfl <;> omega
    refine Wp.mono (P := fun _ st => st = ⟨s3, [.dat (.raw (.ref s.dk)), .dat (.tup c (TH a b t)), .dat (.tup true (I ds)), .dat (.tup true (I (ordT t ds))), .ownd (mergeP [] (cardPairs (ordT t ds))), .dat x, x6, .dat (.int p), .dat (.int q), .un, .un]⟩) ⟨(), _, rfl, rfl⟩ fun _ st e => ?_
    subst e
    have kp := hd.2 _ (P.getD_mem (os := ds) (j := p.toNat) (by omega))
    have kq := hd.2 _ (P.getD_mem (os := ds) (j := q.toNat) (by omega))
    have ip : ∀ x6, Ev (op2M ixD (varM 2) (varM 7)) ⟨s3, [.dat (.raw (.ref s.dk)), .dat (.tup c (TH a b t)), .dat (.tup true (I ds)), .dat (.tup true (I (ordT t ds))), .ownd (mergeP [] (cardPairs (ordT t ds))), .dat x, x6, .dat (.int p), .dat (.int q), .un, .un]⟩ (.int (ds.getD p.toNat 0)) := fun x6 => ev_op2 (ev_var rfl) (ev_var rfl) (ix_I hp'.1 hp'.2)
    have iq : ∀ x6, Ev (op2M ixD (varM 2) (varM 8)) ⟨s3, [.dat (.raw (.ref s.dk)), .dat (.tup c (TH a b t)), .dat (.tup true (I ds)), .dat (.tup true (I (ordT t ds))), .ownd (mergeP [] (cardPairs (ordT t ds))), .dat x, x6, .dat (.int p), .dat (.int q), .un, .un]⟩ (.int (ds.getD q.toNat 0)) := fun x6 => ev_op2 (ev_var rfl) (ev_var rfl) (ix_I hq'.1 hq'.2)
    refine wpe_set (ev_call (ev_cons (ev_var rfl) (ev_cons (ip _) (ev_cons (iq _) ev_nil))) (way_of_ok h ⟨kp.1, by omega⟩ ⟨kq.1, by omega⟩) rfl) ?_
    have w1 : Ev (testM (op2M neD (varM 6) (callM 3 r_Llaw_way (consM (varM 1) (consM (op2M ixD (varM 2) (varM 7)) (consM (op2M ixD (varM 2) (varM 8)) (pureM []))))))) ⟨s3, [.dat (.raw (.ref s.dk)), .dat (.tup c (TH a b t)), .dat (.tup true (I ds)), .dat (.tup true (I (ordT t ds))), .ownd (mergeP [] (cardPairs (ordT t ds))), .dat x, .dat (.str (wayT t (ds.getD p.toNat 0) (ds.getD q.toNat 0))), .dat (.int p), .dat (.int q), .un, .un]⟩ false :=
      ev_test (ev_op2 (ev_var rfl) (ev_call (ev_cons (ev_var rfl) (ev_cons (ip _) (ev_cons (iq _) ev_nil))) (way2_ok h ⟨kp.1, by omega⟩ ⟨kq.1, by omega⟩) rfl) (by rw [neD_ss, decide_eq_true rfl]; rfl))
    refine wpe_pass (ev_tOr (c := false) (c2 := false) w1 fun _ => ?_) (wp_pure.mpr ⟨s3, _, _, _, _, rfl, a13.weak (by omega)⟩)
    have hand := ev_tAnd (t := testM (op2M neD (varM 7) (varM 8))) (t2 := testM (op2M neD (op2M ltD (dGetM 4 (varM 7)) (dGetM 4 (varM 8))) (op2M (inD false) (varM 6) (tupM (consM (pureM (.str "ahead")) (consM (pureM (.str "kept")) (pureM []))))))) (st := ⟨s3, [.dat (.raw (.ref s.dk)), .dat (.tup c (TH a b t)), .dat (.tup true (I ds)), .dat (.tup true (I (ordT t ds))), .ownd (mergeP [] (cardPairs (ordT t ds))), .dat x, .dat (.str (wayT t (ds.getD p.toNat 0) (ds.getD q.toNat 0))), .dat (.int p), .dat (.int q), .un, .un]⟩) (c2 := false)
      (ev_test (ev_op2 (ev_var rfl) (ev_var rfl) neD_ii)) fun hne => ?_
    · rwa [Bool.and_false] at hand
    · have hlt : p < q := by
        have : p ≠ q := by simpa using hne
        omega
      have inK : ∀ k ∈ ds, k ∈ kindsT t := fun k hk => h.all.mem_iff.mpr (mem_row.mpr (by have := hd.2 k hk; omega))
      have mo : ∀ x : Int, 0 ≤ x → x < ds.length → x ∈ ordT t ds := fun x x0 x1 => mem_ordT.mpr ⟨x0, x1, inK _ (P.getD_mem (by omega))⟩
      have key := way_order (ds := ds) hp'.1 hlt hq'.2 h.ord.nodup (fun r hr => (h.lots r hr).2) (inK _ (P.getD_mem (by omega))) (inK _ (P.getD_mem (by omega)))
      refine ev_test (ev_op2 (ev_op2 (ev_dGet (j := .inl p) rfl (ev_var rfl) rfl (spot_ok ho.nodup (mo p hp'.1 hp'.2))) (ev_dGet (j := .inl q) rfl (ev_var rfl) rfl (spot_ok ho.nodup (mo q hq'.1 hq'.2))) ltD_ii) (ev_op2 (ev_var rfl) (ev_tup (ev_cons ev_pure (ev_cons ev_pure ev_nil)) two_le) (show _ = some (D.bl (isFirst (wayT t (ds.getD p.toNat 0) (ds.getD q.toNat 0)))) from rfl)) ?_)
      rw [neD_bb, ← key]
      have : decide (((ordT t ds).idxOf p : Int) < ((ordT t ds).idxOf q : Nat)) = decide ((ordT t ds).idxOf p < (ordT t ds).idxOf q) := decide_eq_decide.mpr (by omega)
      rw [this]
      simp
  · rintro st ⟨s1, x5, x6, x7, x8, rfl, a1⟩
    have : (I (row (if 1 < ds.length then 12 else 0))).length ≤ 12 := by rw [lenI, row_len]; split <;> omega
    exact wpe_ret ev_pure ⟨rfl, a1.weak (by omega)⟩
/-! a part of the cards, and more cards -/
theorem parts_right {n : Nat} {t : Th} {ds : List Int} {a b c : Bool} {s : S} (h : IsTh n t) (hd : Dk n ds) (g : Good 140 s) : ∃ s', r_Llaw_are_parts_right [.raw (.ref s.dk), .tup c (TH a b t), .tup true (I ds)] s = some (.bl true, s') ∧ Adv 140 s s' := by
  have := run_of (n := 9) (np := 3) (body := b_Llaw_are_parts_right) (ds := [.raw (.ref s.dk), .tup c (TH a b t), .tup true (I ds)]) (s := s) (Q := fun d s' => d = .bl true ∧ Adv 140 s s') rfl ?_
  · obtain ⟨d, s', e, rfl, h⟩ := this
    exact ⟨s', e, h⟩
  have hn1 := h.n1
  have hn8 := h.n8
  have hl := ordT_len h hd.2
  have ho := ordT_ord h hd.2
  have h60 := hd.1
  have s1' := ord_sm h hd
  unfold b_Llaw_are_parts_right
  show Wp _ ⟨s, [.dat (.raw (.ref s.dk)), .dat (.tup c (TH a b t)), .dat (.tup true (I ds)), .un, .un, .un, .un, .un, .un]⟩ _
  refine wpe_set (ev_call (ev_cons (ev_var rfl) (ev_cons (ev_var rfl) ev_nil)) (order_after_ok h hd) rfl) ?_
  show Wp _ ⟨s, [.dat (.raw (.ref s.dk)), .dat (.tup c (TH a b t)), .dat (.tup true (I ds)), .dat (.tup true (I (ordT t ds))), .un, .un, .un, .un, .un]⟩ _
  have elen : ∀ {s1 : S} {x4 x5 x6 x7 x8 : Slot}, Ev (callD lenD (consM (varM 2) (pureM []))) ⟨s1, [.dat (.raw (.ref s.dk)), .dat (.tup c (TH a b t)), .dat (.tup true (I ds)), .dat (.tup true (I (ordT t ds))), x4, x5, x6, x7, x8]⟩ (.int (ds.length : Int)) := fun {s1 x4 x5 x6 x7 x8} => ev_callD (ev_cons (ev_var rfl) ev_nil) (by rw [lenD_t, lenI])
  refine wps_ownF (wps_compT (s := s) (r := [.dat (.raw (.ref s.dk)), .dat (.tup c (TH a b t)), .dat (.tup true (I ds)), .dat (.tup true (I (ordT t ds))), .un, .un, .un, .un, .un]) (ds := I (row ds.length)) (fun y => [.dat (.raw (.ref s.dk)), .dat (.tup c (TH a b t)), .dat (.tup true (I ds)), .dat (.tup true (I (ordT t ds))), .un, .un, .un, .dat y, .un])
    (fun i acc s1 => Adv i s s1 ∧ ∃ sm, acc = I sm ∧ sm.Pairwise (· < ·) ∧ sm.length ≤ i ∧ ∀ x ∈ sm, 0 ≤ x ∧ x < (i : Int)) (ev_it (ev_cons elen ev_nil) (rng1_row (by omega))) rfl rfl ⟨Adv.refl s, [], rfl, .nil, Nat.le_refl _, fun x hx => by cases hx⟩ (fun y _ s1 => tg1) (fun y _ => rfl) ?_ ?_)
  · rintro i x acc s1 hx ⟨a1, sm, rfl, hs, hsl, hr⟩
    obtain ⟨k, hk, rfl⟩ := I_get hx
    have hi : i < ds.length := by
      have := (List.getElem?_eq_some_iff.mp hk).1
      rwa [row_len] at this
    have hki : k = (i : Int) := by rw [row_get hi] at hk; cases hk; rfl
    subst hki
    refine wp_test.mpr (wp_op2.mpr (wps_draw (dk := s.dk) rfl a1.dk.symm ev_pure (by omega) (by omega) (a1.good 1 (g.mono (by omega))) fun u s2 u0 u1 a2 => (ev_pure (x := D.int 0)).wp ⟨_, eqD_ii, _, rfl, s2, rfl, fun _ => (ev_var rfl).wp ⟨s2, rfl, a1.trans a2, sm ++ [(i : Int)], ?_, ?_, ?_, ?_⟩, fun _ => ⟨a1.trans a2, sm, rfl, hs, by omega, fun x hx => by have := hr x hx; omega⟩⟩))
    · unfold I; rw [List.map_append]; rfl
    · refine List.pairwise_append.mpr ⟨hs, List.pairwise_singleton _ _, fun x hx y hy => ?_⟩
      rw [List.mem_singleton.mp hy]
      exact (hr x hx).2
    · rw [List.length_append, List.length_singleton]; omega
    · intro x hx
      rcases List.mem_append.mp hx with hx | hx
      · have := hr x hx; omega
      · rw [List.mem_singleton.mp hx]; omega
  rintro acc s1 ⟨a1, sm, rfl, hs, hsl, hr⟩
  rw [lenI, row_len] at a1 hsl hr
  refine ⟨by rw [lenI, sizeLine_eq]; omega, s1, _, rfl, by simp, ?_⟩
  show Wp _ ⟨s1, [.dat (.raw (.ref s.dk)), .dat (.tup c (TH a b t)), .dat (.tup true (I ds)), .dat (.tup true (I (ordT t ds))), .dat (.lst (I sm)), .un, .un, .un, .un]⟩ _
  have hpd : Dk n (partD ds sm) := ⟨by unfold partD; rw [List.length_map]; omega, fun k hk => by
    obtain ⟨x, hx, rfl⟩ := List.mem_map.mp hk
    have := hr x hx
    exact hd.2 _ (P.getD_mem (by omega))⟩
  have ed : Ev (callD tupD (consM (ofLM (compM (seqI (varM 3)) (tgN 8) (testM (op2M (inD false) (varM 8) (varM 4))) (indexM (varM 4) (consM (varM 8) (pureM []))) [8])) (pureM []))) ⟨s1, [.dat (.raw (.ref s.dk)), .dat (.tup c (TH a b t)), .dat (.tup true (I ds)), .dat (.tup true (I (ordT t ds))), .dat (.lst (I sm)), .un, .un, .un, .un]⟩ (.tup true (I (ordT t (partD ds sm)))) := by
    refine ev_callD (ev_cons (ev_ofL (?_ : Ev _ _ (I (ordT t (partD ds sm))))) ev_nil) rfl
    have := ev_comp (s := s1) (k := tgN 8) (tt := testM (op2M (inD false) (varM 8) (varM 4))) (te := indexM (varM 4) (consM (varM 8) (pureM []))) (it := seqI (varM 3)) (vs := [8]) (ds := I (ordT t ds)) (r := [.dat (.raw (.ref s.dk)), .dat (.tup c (TH a b t)), .dat (.tup true (I ds)), .dat (.tup true (I (ordT t ds))), .dat (.lst (I sm)), .un, .un, .un, .un])
      (fun x => [.dat (.raw (.ref s.dk)), .dat (.tup c (TH a b t)), .dat (.tup true (I ds)), .dat (.tup true (I (ordT t ds))), .dat (.lst (I sm)), .un, .un, .un, .dat x]) (fun x => match x with | .int k => decide (k ∈ sm) | _ => false) (fun x => match x with | .int k => .int (sm.idxOf k : Nat) | x => x)
      (ev_seq (ev_var rfl) rfl) (by rw [lenI, hl, sizeLine_eq]; omega) rfl rfl (fun x _ => tg1) (fun x _ => rfl) ?_ ?_
    · rw [filter_I (q := fun k => decide (k ∈ sm)) fun k => rfl] at this
      rw [ordT_part hs hr t]
      have e : (I ((ordT t ds).filter fun k => decide (k ∈ sm))).map (fun x => match x with | .int k => .int (sm.idxOf k : Nat) | x => x) = I (((ordT t ds).filter fun c => decide (c ∈ sm)).map fun c => ((sm.idxOf c : Nat) : Int)) := by
        unfold I
        rw [List.map_map, List.map_map]
        rfl
      rw [e] at this
      exact this
    · intro x hx
      obtain ⟨k, hk, rfl⟩ := List.mem_map.mp hx
      exact ev_test (ev_op2 (ev_var rfl) (ev_var rfl) in_L')
    · intro x hx hp
      obtain ⟨k, hk, rfl⟩ := List.mem_map.mp hx
      have hk' : k ∈ sm := of_decide_eq_true hp
      refine ev_bind (ev_var (d := .lst (I sm)) rfl) (ev_bind (ev_cons (ev_var rfl) ev_nil) (ev_lift ?_))
      show (intsD (I sm)).bind (fun ns => (ns.findIdx? (· == k)).map fun j => D.int (j : Nat)) = _
      rw [show intsD (I sm) = some sm from intsD_of sm, Option.bind_some]
      have h1 := idx_len hk'
      have : sm.findIdx? (· == k) = some (sm.idxOf k) := by
        rw [List.findIdx?_eq_some_iff_findIdx_eq]
        exact ⟨h1, rfl⟩
      rw [this]; rfl
  refine wpe_set ed ?_
  show Wp _ ⟨s1, [.dat (.raw (.ref s.dk)), .dat (.tup c (TH a b t)), .dat (.tup true (I ds)), .dat (.tup true (I (ordT t ds))), .dat (.lst (I sm)), .dat (.tup true (I (ordT t (partD ds sm)))), .un, .un, .un]⟩ _
  have ec : Ev (callD tupD (consM (ofLM (compM (seqI (varM 4)) (tgN 7) (pureM true) (op2M ixD (varM 2) (varM 7)) [7])) (pureM []))) ⟨s1, [.dat (.raw (.ref s.dk)), .dat (.tup c (TH a b t)), .dat (.tup true (I ds)), .dat (.tup true (I (ordT t ds))), .dat (.lst (I sm)), .dat (.tup true (I (ordT t (partD ds sm)))), .un, .un, .un]⟩ (.tup true (I (partD ds sm))) := by
    refine ev_callD (ev_cons (ev_ofL (?_ : Ev _ _ (I (partD ds sm)))) ev_nil) rfl
    have := ev_map (s := s1) (k := tgN 7) (te := op2M ixD (varM 2) (varM 7)) (it := seqI (varM 4)) (vs := [7]) (ds := I sm) (r := [.dat (.raw (.ref s.dk)), .dat (.tup c (TH a b t)), .dat (.tup true (I ds)), .dat (.tup true (I (ordT t ds))), .dat (.lst (I sm)), .dat (.tup true (I (ordT t (partD ds sm)))), .un, .un, .un])
      (fun x => [.dat (.raw (.ref s.dk)), .dat (.tup c (TH a b t)), .dat (.tup true (I ds)), .dat (.tup true (I (ordT t ds))), .dat (.lst (I sm)), .dat (.tup true (I (ordT t (partD ds sm)))), .un, .dat x, .un]) (atF ds)
      (ev_seq (ev_var rfl) rfl) (by rw [lenI, sizeLine_eq]; omega) rfl rfl (fun x _ => tg1) (fun x _ => rfl) ?_
    · rw [map_at] at this
      exact this
    · intro x hx
      obtain ⟨k, hk, rfl⟩ := List.mem_map.mp hx
      have := hr k hk
      exact ev_op2 (ev_var rfl) (ev_var rfl) (ix_I this.1 this.2)
  have sp := ord_sm h hpd
  refine wpe_pass (ev_reprNe (p := py (ordT t (partD ds sm))) (ev_call (ev_cons (ev_var rfl) (ev_cons ec ev_nil)) (order_after_ok h hpd) rfl) (ev_var rfl) rfl rfl (toPy_I' rfl) (toPy_I' rfl) (sm_show sp)) ?_
  -- more cards
  obtain ⟨m, hm, hm60⟩ : ∃ m : Nat, ((if decide ((50 : Int) < (ds.length : Int)) = true then D.int ((60 : Int) - (ds.length : Int)) else D.int 4) = D.int (m : Int)) ∧ ds.length + m ≤ 60 := by
    by_cases c1 : (50 : Int) < (ds.length : Int)
    · exact ⟨60 - ds.length, by rw [if_pos (decide_eq_true c1)]; congr 1; omega, by omega⟩
    · exact ⟨4, by rw [if_neg (by rw [decide_eq_false c1]; decide)]; rfl, by omega⟩
  obtain ⟨es, s2, e2, hl2, hr2, a2⟩ := cards_ok (n := n) (m := m) (s := s1) hn1 hn8 (by omega) (a1.good 70 (g.mono (by omega)))
  rw [a1.dk] at e2
  obtain ⟨fb, ecat⟩ := catT_ok (b := true) (c := true) (xs := ds) (ys := es) (by omega)
  have ef : Ev (ifM (testM (op2M gtD (callD lenD (consM (varM 2) (pureM []))) (pureM (.int 50)))) (op2M subD (pureM (.int 60)) (callD lenD (consM (varM 2) (pureM [])))) (pureM (.int 4))) ⟨s1, [.dat (.raw (.ref s.dk)), .dat (.tup c (TH a b t)), .dat (.tup true (I ds)), .dat (.tup true (I (ordT t ds))), .dat (.lst (I sm)), .dat (.tup true (I (ordT t (partD ds sm)))), .un, .un, .un]⟩ (.int (m : Int)) := by
    rw [← hm]
    exact ev_ifM (ev_test (ev_op2 elen ev_pure gtD_ii)) (fun _ => ev_op2 ev_pure elen subD_ii) (fun _ => ev_pure)
  refine wps_set (wp_op2.mpr ((ev_var (d := .tup true (I ds)) rfl).wp (wps_call (ev_cons (ev_var rfl) (ev_cons (ev_call (ev_cons (ev_var rfl) ev_nil) (size2_ok h) rfl) (ev_cons ef ev_nil))) rfl ⟨_, _, e2, _, ecat, ?_⟩)))
  show Wp _ ⟨s2, [.dat (.raw (.ref s.dk)), .dat (.tup c (TH a b t)), .dat (.tup true (I ds)), .dat (.tup true (I (ordT t ds))), .dat (.lst (I sm)), .dat (.tup true (I (ordT t (partD ds sm)))), .dat (.tup fb (I (ds ++ es))), .un, .un]⟩ _
  have hmd : Dk n (ds ++ es) := ⟨by rw [List.length_append]; omega, fun k hk => by
    rcases List.mem_append.mp hk with hk | hk
    · exact hd.2 k hk
    · exact hr2 k hk⟩
  have em : Ev (callD tupD (consM (ofLM (compM (seqI (callM 2 r_order_after (consM (varM 1) (consM (varM 6) (pureM []))))) (tgN 8) (testM (op2M ltD (varM 8) (callD lenD (consM (varM 2) (pureM []))))) (varM 8) [8])) (pureM []))) ⟨s2, [.dat (.raw (.ref s.dk)), .dat (.tup c (TH a b t)), .dat (.tup true (I ds)), .dat (.tup true (I (ordT t ds))), .dat (.lst (I sm)), .dat (.tup true (I (ordT t (partD ds sm)))), .dat (.tup fb (I (ds ++ es))), .un, .un]⟩ (.tup true (I (ordT t ds))) := by
    refine ev_callD (ev_cons (ev_ofL (?_ : Ev _ _ (I (ordT t ds)))) ev_nil) rfl
    have := ev_comp (s := s2) (k := tgN 8) (tt := testM (op2M ltD (varM 8) (callD lenD (consM (varM 2) (pureM []))))) (te := varM 8) (it := seqI (callM 2 r_order_after (consM (varM 1) (consM (varM 6) (pureM []))))) (vs := [8]) (ds := I (ordT t (ds ++ es))) (r := [.dat (.raw (.ref s.dk)), .dat (.tup c (TH a b t)), .dat (.tup true (I ds)), .dat (.tup true (I (ordT t ds))), .dat (.lst (I sm)), .dat (.tup true (I (ordT t (partD ds sm)))), .dat (.tup fb (I (ds ++ es))), .un, .un])
      (fun x => [.dat (.raw (.ref s.dk)), .dat (.tup c (TH a b t)), .dat (.tup true (I ds)), .dat (.tup true (I (ordT t ds))), .dat (.lst (I sm)), .dat (.tup true (I (ordT t (partD ds sm)))), .dat (.tup fb (I (ds ++ es))), .un, .dat x]) (fun x => match x with | .int k => decide (k < (ds.length : Int)) | _ => false) (fun x => x)
      (ev_seq (ev_call (ev_cons (ev_var rfl) (ev_cons (ev_var rfl) ev_nil)) (order_after_ok h hmd) rfl) rfl) (by rw [lenI, ordT_len h hmd.2, sizeLine_eq]; have := hmd.1; omega) rfl rfl (fun x _ => tg1) (fun x _ => rfl) ?_ (fun x _ _ => ev_var rfl)
    · rw [List.map_id', filter_I (q := fun k => decide (k < (ds.length : Int))) fun k => rfl, ordT_more] at this
      exact this
    · intro x hx
      obtain ⟨k, hk, rfl⟩ := List.mem_map.mp hx
      exact ev_test (ev_op2 (ev_var rfl) elen ltD_ii)
  exact wps_ret ((ev_reprEq (p := py (ordT t ds)) em (ev_var rfl) rfl rfl (toPy_I' rfl) (toPy_I' rfl) (sm_show s1')).wp ⟨rfl, (a1.trans a2).weak (by omega)⟩)
theorem row_filter {l ds : List Int} : ((row ds.length).filter fun k => decide (ds.getD k.toNat 0 ∈ l)) = places l ds := by
  refine sorted_ext ((row_sorted _).filter _) (places_sorted l ds) fun x => ?_
  rw [List.mem_filter, mem_places]
  constructor
  · rintro ⟨h1, h2⟩
    have := mem_row.mp h1
    exact ⟨this.1, this.2, of_decide_eq_true h2⟩
  · rintro ⟨h1, h2, h3⟩
    exact ⟨mem_row.mpr ⟨h1, h2⟩, decide_eq_true h3⟩
theorem plain_snoc {t : Th} {p : List Int × Int} {ds : List Int} : plainT (t ++ [p]) ds = plainT t ds ++ places p.1 ds := by
  unfold plainT
  rw [List.flatMap_append]
  simp
theorem places_len {l ds : List Int} : (places l ds).length ≤ ds.length := by
  have := lotCards_len (l := l) (g := 1) (ds := ds)
  unfold lotCards at this
  rwa [if_pos rfl] at this
theorem plain_le {ds : List Int} : ∀ {t : Th}, (plainT t ds).length ≤ t.length * ds.length
  | [] => Nat.zero_le _
  | p :: t => by
    have := plain_le (ds := ds) (t := t)
    have h1 := places_len (l := p.1) (ds := ds)
    show (places p.1 ds ++ plainT t ds).length ≤ (t.length + 1) * ds.length
    rw [List.length_append, Nat.succ_mul]
    omega
theorem plain_mem {ds : List Int} {t : Th} {c : Int} (h : c ∈ plainT t ds) : 0 ≤ c ∧ c < ds.length := by
  obtain ⟨p, _, hc⟩ := List.mem_flatMap.mp h
  have := mem_places.mp hc
  exact ⟨this.1, this.2.1⟩
theorem plain_right {n : Nat} {t : Th} {ds : List Int} {a b c : Bool} {s : S} (h : IsTh n t) (hd : Dk n ds) : r_Llaw_are_plain_right [.tup c (TH a b t), .tup true (I ds)] s = some (.bl true, s) := by
  have hn1 := h.n1
  have hn8 := h.n8
  have hl := ordT_len h hd.2
  have ho := ordT_ord h hd.2
  have h60 := hd.1
  have nd := near_dk h hd
  have ht8 := h.len
  have st := isTh_one (n := n) (g := 1) hn1 hn8 (.inl rfl)
  have tu := isTh_one (n := n) (g := -1) hn1 hn8 (.inr rfl)
  have or' := ord_row ds.length
  have orr := ord_rev or'
  have q1 : ordT [(row n, 1)] ds = row ds.length := by rw [ordT_one hd.2]; rfl
  have q2 : ordT [(row n, -1)] ds = (row ds.length).reverse := by rw [ordT_one hd.2]; rfl
  have c0 : ∀ {c s}, r_Llaw_size [.tup c (TH a b t)] s = some (.int (n : Int), s) := size2_ok h
  have c1 : ∀ {s}, r_still [.int (n : Int)] s = some (.tup false (TH false false [(row n, 1)]), s) := still_ok hn1 hn8
  have c2 : ∀ {s}, r_turning [.int (n : Int)] s = some (.tup false (TH false false [(row n, -1)]), s) := turning_ok hn1 hn8
  have c3 : ∀ {c e s}, r_order_after [.tup c (TH false false [(row n, 1)]), .tup e (I ds)] s = some (.tup true (I (ordT [(row n, 1)] ds)), s) := order_after_ok st hd
  have c4 : ∀ {c e s}, r_order_after [.tup c (TH false false [(row n, -1)]), .tup e (I ds)] s = some (.tup true (I (ordT [(row n, -1)] ds)), s) := order_after_ok tu hd
  have c5 : ∀ {c e s}, r_deck_after [.tup c (TH false false [(row n, -1)]), .tup e (I ds)] s = some (.tup true (I (app ds (ordT [(row n, -1)] ds))), s) := deck_after_ok tu hd
  have c6 : ∀ {b s}, r_opposite [.tup b (I (row ds.length))] s = some (.tup false (I (row ds.length).reverse), s) := opposite_ok or' (by rw [row_len]; omega)
  have c7 : ∀ {b c s}, r_laid [.tup b (I ds), .tup c (I (row ds.length).reverse)] s = some (.tup true (I (app ds (row ds.length).reverse)), s) := laid_ok (fun k hk => by have := hd.2 k hk; omega) orr (by rw [List.length_reverse, row_len]) h60
  have c8 : ∀ {c e s}, r_deck_after [.tup c (TH a b t), .tup e (I ds)] s = some (.tup true (I (app ds (ordT t ds))), s) := deck_after_ok h hd
  have c9 : ∀ {c e s}, r_order_after [.tup c (TH a b t), .tup e (I ds)] s = some (.tup true (I (ordT t ds)), s) := order_after_ok h hd
  have d1 : ∀ {c e s}, r_order_after [.tup c (TH a b t), .tup e (I (app ds (ordT t ds)))] s = some (.tup true (I (ordT t (app ds (ordT t ds)))), s) := order_after_ok h nd
  have d2 : ∀ {c e s}, r_deck_after [.tup c (TH a b t), .tup e (I (app ds (ordT t ds)))] s = some (.tup true (I (app (app ds (ordT t ds)) (ordT t (app ds (ordT t ds))))), s) := deck_after_ok h nd
  have on := ordT_ord h nd.2
  have ln : (ordT t (app ds (ordT t ds))).length = ds.length := by rw [ordT_len h nd.2, app_len, hl]
  have qt : app (ordT t ds) (ordT t (app ds (ordT t ds))) = plainT t ds := twice_ok h
  have lp : (plainT t ds).length = ds.length := by rw [← qt, app_len, ln]
  have qd : app (app ds (ordT t ds)) (ordT t (app ds (ordT t ds))) = app ds (plainT t ds) := by
    rw [app_app fun k hk => by have := on.range k hk; omega, qt]
  have pm : ∀ k ∈ plainT t ds, 0 ≤ k ∧ k < (ds.length : Int) := fun k hk => plain_mem hk
  have sr : Sm (row ds.length) := or'.sm (by rw [row_len]; omega)
  have srr : Sm (row ds.length).reverse := orr.sm (by rw [List.length_reverse, row_len]; omega)
  have smm : ∀ {os : List Int}, OrdP os → os.length = ds.length → Sm (app ds os) := fun o l => (hd.app o l).sm hn8
  have sx : Sm (app ds (plainT t ds)) := by
    rw [← qd]
    exact (nd.app on (by rw [ln, app_len, hl])).sm hn8
  have sp : Sm (plainT t ds) := ⟨by omega, fun k hk => by have := pm k hk; omega⟩
  refine run_ev rfl ?_
  unfold b_Llaw_are_plain_right
  have a1 : Ev (xDat (callM 1 r_Llaw_size (consM (varM 0) (pureM []))) (xDat (tupRgM (callD lenD (consM (varM 1) (pureM [])))) (pureM []))) ⟨s, [.dat (.tup c (TH a b t)), .dat (.tup true (I ds)), .un, .un, .un, .un, .un, .un, .un, .un]⟩ [.dat (.int n), .dat (.tup false (I (row ds.length)))] := ev_bind (by (repeat' (first | with_reducible exact ev_nil | (with_reducible apply ev_var; exact rfl) | with_reducible apply ev_cons | with_reducible apply ev_tup | (rw [sizeLine_eq]; simp only [List.length_cons, List.length_nil]; omega) | with_reducible apply ev_call | with_reducible apply ev_pick | with_reducible exact pick10 | with_reducible exact pick_0 | with_reducible apply ev_turn | with_reducible apply ev_tupRg | with_reducible apply ev_op2 | with_reducible apply ev_callD | with_reducible apply ev_test | with_reducible apply ev_ofL | with_reducible exact ev_pure | with_reducible exact c0 | exact rfl))) (ev_bind (ev_bind (ev_tupRg' (ev_callD (ev_cons (ev_var rfl) ev_nil) (show lenD [.tup true (I ds)] = some (.int (ds.length : Nat)) from by rw [lenD_t, lenI])) (by omega)) (ev_bind ev_pure ev_pure)) ev_pure)
  refine wps_parM (a1.wp ⟨rfl, ?_⟩)
  show Wp _ ⟨s, [.dat (.tup c (TH a b t)), .dat (.tup true (I ds)), .un, .dat (.int n), .dat (.tup false (I (row ds.length))), .un, .un, .un, .un, .un]⟩ _
  refine wpe_pass (ev_reprNe (p := .tuple [py (row ds.length), py (row ds.length).reverse]) (by (repeat' (first | with_reducible exact ev_nil | (with_reducible apply ev_var; exact rfl) | with_reducible apply ev_cons | with_reducible apply ev_tup | (rw [sizeLine_eq]; simp only [List.length_cons, List.length_nil]; omega) | with_reducible apply ev_call | with_reducible apply ev_pick | with_reducible exact pick10 | with_reducible exact pick_0 | with_reducible apply ev_turn | with_reducible apply ev_tupRg | with_reducible apply ev_op2 | with_reducible apply ev_callD | with_reducible apply ev_test | with_reducible apply ev_ofL | with_reducible exact ev_pure | with_reducible exact c1 | with_reducible exact c2 | with_reducible exact c3 | with_reducible exact c4 | exact rfl))) (ev_tup (ev_cons (ev_var rfl) (ev_cons (ev_turn (ev_var rfl) turn_I) ev_nil)) two_le) rfl rfl (toPy_tup (toPys_cons (toPy_I' q1) (toPys_cons (toPy_I' q2) toPys_nil))) (toPy_tup (toPys_cons (toPy_I' rfl) (toPys_cons (toPy_I' rfl) toPys_nil))) (shows_py (by simp) (by simp only [List.mem_cons, List.not_mem_nil, or_false]; rintro p (rfl | rfl) <;> exact sm_py (by assumption)))) ?_
  refine wpe_pass (ev_reprNe (p := py (app ds (row ds.length).reverse)) (by (repeat' (first | with_reducible exact ev_nil | (with_reducible apply ev_var; exact rfl) | with_reducible apply ev_cons | with_reducible apply ev_tup | (rw [sizeLine_eq]; simp only [List.length_cons, List.length_nil]; omega) | with_reducible apply ev_call | with_reducible apply ev_pick | with_reducible exact pick10 | with_reducible exact pick_0 | with_reducible apply ev_turn | with_reducible apply ev_tupRg | with_reducible apply ev_op2 | with_reducible apply ev_callD | with_reducible apply ev_test | with_reducible apply ev_ofL | with_reducible exact ev_pure | with_reducible exact c2 | with_reducible exact c5 | exact rfl))) (by (repeat' (first | with_reducible exact ev_nil | (with_reducible apply ev_var; exact rfl) | with_reducible apply ev_cons | with_reducible apply ev_tup | (rw [sizeLine_eq]; simp only [List.length_cons, List.length_nil]; omega) | with_reducible apply ev_call | with_reducible apply ev_pick | with_reducible exact pick10 | with_reducible exact pick_0 | with_reducible apply ev_turn | with_reducible apply ev_tupRg | with_reducible apply ev_op2 | with_reducible apply ev_callD | with_reducible apply ev_test | with_reducible apply ev_ofL | with_reducible exact ev_pure | with_reducible exact c6 | with_reducible exact c7 | exact rfl))) rfl rfl (toPy_I' (by rw [q2])) (toPy_I' rfl) (sm_show (smm orr (by rw [List.length_reverse, row_len])))) ?_
  have a2 : Ev (callM 2 r_deck_after (consM (varM 0) (consM (varM 1) (pureM [])))) ⟨s, [.dat (.tup c (TH a b t)), .dat (.tup true (I ds)), .un, .dat (.int n), .dat (.tup false (I (row ds.length))), .un, .un, .un, .un, .un]⟩ (.tup true (I (app ds (ordT t ds)))) := by (repeat' (first | with_reducible exact ev_nil | (with_reducible apply ev_var; exact rfl) | with_reducible apply ev_cons | with_reducible apply ev_tup | (rw [sizeLine_eq]; simp only [List.length_cons, List.length_nil]; omega) | with_reducible apply ev_call | with_reducible apply ev_pick | with_reducible exact pick10 | with_reducible exact pick_0 | with_reducible apply ev_turn | with_reducible apply ev_tupRg | with_reducible apply ev_op2 | with_reducible apply ev_callD | with_reducible apply ev_test | with_reducible apply ev_ofL | with_reducible exact ev_pure | with_reducible exact c8 | exact rfl))
  refine wps_parM (wps_xDat (a2.wp (wps_xOwn (wps_fit ((ev_pure (x := ([] : List D))).wp ⟨Nat.zero_le _, wp_pure.mpr ⟨rfl, ?_⟩⟩)))))
  show Wp _ ⟨s, [.dat (.tup c (TH a b t)), .dat (.tup true (I ds)), .un, .dat (.int n), .dat (.tup false (I (row ds.length))), .dat (.tup true (I (app ds (ordT t ds)))), .own [], .un, .un, .un]⟩ _
  -- twice
  have o7 : ds.length < 8 → ∀ k ∈ ordT t ds, 0 ≤ k ∧ k ≤ 7 := fun h8 k hk => by have := ho.range k hk; omega
  have a3 := ev_ifM (t := testM (op2M ltD (callD lenD (consM (varM 1) (pureM []))) (pureM (.int 8)))) (a := callM 2 r_laid (consM (callM 2 r_order_after (consM (varM 0) (consM (varM 1) (pureM [])))) (consM (callM 2 r_order_after (consM (varM 0) (consM (varM 5) (pureM [])))) (pureM [])))) (b := pureM .non) (c := decide ((ds.length : Int) < 8)) (x := .tup true (I (plainT t ds))) (y := .non) (st := ⟨s, [.dat (.tup c (TH a b t)), .dat (.tup true (I ds)), .un, .dat (.int n), .dat (.tup false (I (row ds.length))), .dat (.tup true (I (app ds (ordT t ds)))), .own [], .un, .un, .un]⟩)
    (ev_test (ev_op2 (ev_callD (ev_cons (ev_var rfl) ev_nil) (show lenD [.tup true (I ds)] = some (.int (ds.length : Int)) from by rw [lenD_t, lenI])) ev_pure ltD_ii)) (fun e => by
      have h8 : ds.length < 8 := by have := of_decide_eq_true e; omega
      have d3 : ∀ {b c s}, r_laid [.tup b (I (ordT t ds)), .tup c (I (ordT t (app ds (ordT t ds))))] s = some (.tup true (I (app (ordT t ds) (ordT t (app ds (ordT t ds))))), s) := laid_ok (o7 h8) on (by omega) (by omega)
      rw [qt] at d3
      (repeat' (first | with_reducible exact ev_nil | (with_reducible apply ev_var; exact rfl) | with_reducible apply ev_cons | with_reducible apply ev_tup | (rw [sizeLine_eq]; simp only [List.length_cons, List.length_nil]; omega) | with_reducible apply ev_call | with_reducible apply ev_pick | with_reducible exact pick10 | with_reducible exact pick_0 | with_reducible apply ev_turn | with_reducible apply ev_tupRg | with_reducible apply ev_op2 | with_reducible apply ev_callD | with_reducible apply ev_test | with_reducible apply ev_ofL | with_reducible exact ev_pure | with_reducible exact c9 | with_reducible exact d1 | with_reducible exact d3 | exact rfl))) (fun _ => ev_pure)
  refine wpe_set a3 ?_
  generalize hx2 : (if decide ((ds.length : Int) < 8) = true then D.tup true (I (plainT t ds)) else D.non) = x2
  show Wp _ ⟨s, [.dat (.tup c (TH a b t)), .dat (.tup true (I ds)), .dat x2, .dat (.int n), .dat (.tup false (I (row ds.length))), .dat (.tup true (I (app ds (ordT t ds)))), .own [], .un, .un, .un]⟩ _
  refine wps_for (fun i st => ∃ x7 x8, st = ⟨s, [.dat (.tup c (TH a b t)), .dat (.tup true (I ds)), .dat x2, .dat (.int n), .dat (.tup false (I (row ds.length))), .dat (.tup true (I (app ds (ordT t ds)))), .own (I (plainT (t.take i) ds)), x7, x8, .un]⟩) (ev_seq (ev_var rfl) rfl) ⟨.un, .un, rfl⟩ ?_ ?_
  · rintro i x _ hx ⟨x7, x8, rfl⟩
    unfold TH at hx
    rw [List.getElem?_map] at hx
    obtain ⟨p, hp, rfl⟩ := Option.map_eq_some_iff.mp hx
    have hit : i < t.length := (List.getElem?_eq_some_iff.mp hp).1
    refine tg2.mono fun _ st e => ?_
    subst e
    have ec := ev_comp (s := s) (k := tgN 9) (tt := testM (op2M (inD false) (op2M ixD (varM 1) (varM 9)) (varM 7))) (te := varM 9) (it := seqI (varM 4)) (vs := [9]) (ds := I (row ds.length)) (r := [.dat (.tup c (TH a b t)), .dat (.tup true (I ds)), .dat x2, .dat (.int n), .dat (.tup false (I (row ds.length))), .dat (.tup true (I (app ds (ordT t ds)))), .own (I (plainT (t.take i) ds)), .dat (.tup b (I p.1)), .dat (.int p.2), .un])
      (fun x => [.dat (.tup c (TH a b t)), .dat (.tup true (I ds)), .dat x2, .dat (.int n), .dat (.tup false (I (row ds.length))), .dat (.tup true (I (app ds (ordT t ds)))), .own (I (plainT (t.take i) ds)), .dat (.tup b (I p.1)), .dat (.int p.2), .dat x]) (fun x => match x with | .int k => decide (ds.getD k.toNat 0 ∈ p.1) | _ => false) (fun x => x)
      (ev_seq (ev_var rfl) rfl) (by rw [lenI, row_len, sizeLine_eq]; omega) rfl rfl (fun x _ => tg1) (fun x _ => rfl) (fun x hx => by
        obtain ⟨k, hk, rfl⟩ := List.mem_map.mp hx
        have := mem_row.mp hk
        exact ev_test (ev_op2 (ev_op2 (ev_var rfl) (ev_var rfl) (ix_I this.1 this.2)) (ev_var rfl) in_I')) (fun x _ _ => ev_var rfl)
    rw [List.map_id', filter_I (q := fun k => decide (ds.getD k.toNat 0 ∈ p.1)) fun k => rfl, row_filter] at ec
    have l1 := plain_le (ds := ds) (t := t.take i)
    have l2 : (t.take i).length * ds.length ≤ 8 * 60 := Nat.mul_le_mul (by rw [List.length_take]; omega) h60
    have l3 := places_len (l := p.1) (ds := ds)
    refine wps_drop (wps_mut rfl ((ev_cons (ev_ofL ec) ev_nil).wp ⟨_, rfl, .non, I (plainT (t.take (i + 1)) ds), ?_, wp_pure.mpr ⟨_, _, rfl⟩⟩))
    rw [extend_ok (by rw [lenI, lenI]; omega), List.take_add_one, hp]
    rw [show (some p).toList = [p] from rfl, plain_snoc]
    unfold I
    rw [List.map_append]
  · rintro _ ⟨x7, x8, rfl⟩
    rw [th_len, List.take_length]
    have last : ∀ x6 : Slot, (x6 = .own (I (plainT t ds)) ∨ x6 = .dat (.lst (I (plainT t ds)))) → Wp (seqM (retM (op2M eqD (callD reprD (consM (callM 2 r_deck_after (consM (varM 0) (consM (varM 5) (pureM [])))) (pureM []))) (callD reprD (consM (callD tupD (consM (ofLM (compM (seqI (varM 6)) (tgN 9) (pureM true) (op2M ixD (varM 1) (varM 9)) [9])) (pureM []))) (pureM []))))) (pureM .nx)) ⟨s, [.dat (.tup c (TH a b t)), .dat (.tup true (I ds)), .dat x2, .dat (.int n), .dat (.tup false (I (row ds.length))), .dat (.tup true (I (app ds (ordT t ds)))), x6, x7, x8, .un]⟩ fun fl st' => fl = .rt (.bl true) ∧ st'.s = s := by
      intro x6 h6
      have e1 : Ev (callD reprD (consM (callM 2 r_deck_after (consM (varM 0) (consM (varM 5) (pureM [])))) (pureM []))) ⟨s, [.dat (.tup c (TH a b t)), .dat (.tup true (I ds)), .dat x2, .dat (.int n), .dat (.tup false (I (row ds.length))), .dat (.tup true (I (app ds (ordT t ds)))), x6, x7, x8, .un]⟩ (.str (py (app ds (plainT t ds))).shown) := ev_repr (by (repeat' (first | with_reducible exact ev_nil | (with_reducible apply ev_var; exact rfl) | with_reducible apply ev_cons | with_reducible apply ev_tup | (rw [sizeLine_eq]; simp only [List.length_cons, List.length_nil]; omega) | with_reducible apply ev_call | with_reducible apply ev_pick | with_reducible exact pick10 | with_reducible exact pick_0 | with_reducible apply ev_turn | with_reducible apply ev_tupRg | with_reducible apply ev_op2 | with_reducible apply ev_callD | with_reducible apply ev_test | with_reducible apply ev_ofL | with_reducible exact ev_pure | with_reducible exact d2 | exact rfl))) rfl (toPy_I' qd) (sm_show sx)
      have hit : seqI (varM 6) ⟨s, [.dat (.tup c (TH a b t)), .dat (.tup true (I ds)), .dat x2, .dat (.int n), .dat (.tup false (I (row ds.length))), .dat (.tup true (I (app ds (ordT t ds)))), x6, x7, x8, .un]⟩ = some (I (plainT t ds), ⟨s, [.dat (.tup c (TH a b t)), .dat (.tup true (I ds)), .dat x2, .dat (.int n), .dat (.tup false (I (row ds.length))), .dat (.tup true (I (app ds (ordT t ds)))), .dat (.lst (I (plainT t ds))), x7, x8, .un]⟩) := by
        rcases h6 with rfl | rfl <;> rfl
      refine wps_ret (wp_op2.mpr (e1.wp (wp_callD.mpr (wp_cons.mpr (wp_callD.mpr (wp_cons.mpr (wps_ofL ?_)))))))
      refine wps_comp (fun x => [.dat (.tup c (TH a b t)), .dat (.tup true (I ds)), .dat x2, .dat (.int n), .dat (.tup false (I (row ds.length))), .dat (.tup true (I (app ds (ordT t ds)))), .dat (.lst (I (plainT t ds))), x7, x8, .dat x]) (fun _ => true) (fun i acc s1 => s1 = s ∧ acc = I ((plainT t ds).take i |>.map fun k => ds.getD k.toNat 0)) hit rfl rfl ⟨rfl, rfl⟩ (fun x _ s1 => tg1) (fun x _ => rfl) (fun x _ s1 => ev_pure) ?_ (fun i x acc s1 _ e => by cases e) ?_
      · rintro i x acc s1 hx _ ⟨rfl, rfl⟩
        obtain ⟨k, hk, rfl⟩ := I_get hx
        have := pm k (List.mem_of_getElem? hk)
        refine (ev_op2 (ev_var rfl) (ev_var rfl) (ix_I this.1 this.2)).wp ⟨s1, rfl, rfl, ?_⟩
        rw [List.take_add_one, hk]
        unfold I
        rw [List.map_append, List.map_append]
        rfl
      · rintro acc s1 ⟨rfl, rfl⟩
        rw [show (I (plainT t ds)).length = (plainT t ds).length from lenI _, List.take_length]
        refine ⟨by rw [lenI, List.length_map, lp, sizeLine_eq]; omega, wp_pure.mpr ⟨_, rfl, wp_pure.mpr ⟨.str (py (app ds (plainT t ds))).shown, ?_, _, eqD_ss, ?_, rfl⟩⟩⟩
        · exact repr_row sx
        · simp
    by_cases h8 : (ds.length : Int) < 8
    · rw [if_pos (decide_eq_true h8)] at hx2
      subst hx2
      refine wps_if (wp_tAnd.mpr ((ev_test (ev_op2 (ev_var rfl) ev_pure (show isnD _ _ = some (.bl true) from rfl))).wp ?_))
      rw [if_pos rfl]
      refine wp_test.mpr (wp_op2.mpr ((ev_repr (p := py (plainT t ds)) (ev_var rfl) rfl (toPy_I' rfl) (sm_show sp)).wp (wp_callD.mpr (wp_cons.mpr (wp_callD.mpr (wp_cons.mpr ((wp_varO rfl).mpr (wp_pure.mpr ⟨_, rfl, wp_pure.mpr ⟨.str (py (plainT t ds)).shown, ?_, _, neD_ss, _, rfl, ?_⟩⟩))))))))
      · exact repr_row sp
      · rw [if_neg (by simp)]
        exact last _ (.inr rfl)
    · rw [if_neg (by rw [decide_eq_false h8]; decide)] at hx2
      subst hx2
      refine wps_if (wp_tAnd.mpr ((ev_test (ev_op2 (ev_var rfl) ev_pure (show isnD _ _ = some (.bl false) from rfl))).wp ?_))
      rw [if_neg (by decide), if_neg (by decide)]
      exact last _ (.inl rfl)
theorem math (s : S) (hs : s.draws = 0) (hc : s.cells.length ≤ 63) (hm : ∃ ns : List Int, s.mixed = mixAll 10894613 40692 2147483549 65 2147483563 ns) : ∃ st, b_law ⟨s, lawR s.dk 3⟩ = some (.rt (.bl true), st) := by
  have g : Good 2000 s := by
    obtain ⟨ns, e⟩ := hm
    have := mix_ok (c0 := 10894613) (A := 40692) (B := 2147483549) (C := 65) (M := 2147483563) (by omega) (by omega) (by omega) ns
    rw [← e] at this
    exact ⟨by omega, by omega, this.1, by omega, by omega⟩
  suffices h : Wp b_law ⟨s, lawR s.dk 3⟩ fun fl _ => fl = .rt (.bl true) by
    obtain ⟨fl, st, e, rfl⟩ := h
    exact ⟨st, e⟩
  unfold b_law
  refine wps_for (st := ⟨s, [.un, .dat (.raw (.ref s.dk)), .un, .un, .un]⟩) (ds := I (row 3)) (fun i st => ∃ s1 x2 x3 x4, st = ⟨s1, [.un, .dat (.raw (.ref s.dk)), x2, x3, x4]⟩ ∧ Adv (400 * i) s s1) (ev_it (ev_cons ev_pure ev_nil) (rng1_row (n := 3) (by omega))) ⟨s, _, _, _, rfl, Adv.refl s⟩ ?_ fun st _ => wpe_ret ev_pure rfl
  rintro i x st hx ⟨s1, x2, x3, x4, rfl, a1⟩
  have hi : i < 3 := by
    have := (List.getElem?_eq_some_iff.mp hx).1
    rwa [lenI, row_len] at this
  have hb : 400 * i ≤ 800 := by omega
  refine tg1.mono fun _ st e => ?_
  subst e
  refine wps_set (wp_call.mpr (wp_cons.mpr ((ev_var rfl).wp (wp_cons.mpr (wp_op2.mpr ((ev_pure (x := D.int 1)).wp (wps_draw (dk := s.dk) rfl a1.dk.symm ev_pure (by omega) (by omega) (a1.good 1 (g.mono (by omega))) fun k s2 k0 k1 a2 => ⟨_, addD_ii, wp_pure.mpr ⟨rfl, ?_⟩⟩)))))))
  obtain ⟨n, hn⟩ : ∃ n : Nat, 1 + k = n := ⟨(1 + k).toNat, by omega⟩
  rw [hn]
  have hn1 : 1 ≤ n := by omega
  have hn8 : n ≤ 8 := by omega
  have a12 := a1.trans a2
  obtain ⟨t, s3, e3, ht, a3⟩ := throw_ok (n := n) (s := s2) hn1 hn8 (a12.good 30 (g.mono (by omega)))
  rw [a12.dk] at e3
  refine ⟨_, _, e3, ?_⟩
  have a13 := a12.trans a3
  show Wp _ ⟨s3, [.un, .dat (.raw (.ref s.dk)), .dat x, .dat (.tup true (TH false true t)), x4]⟩ _
  have ep : ∀ st, Ev (tupM (consM (pureM (D.int 4)) (consM (pureM (.int 8)) (consM (pureM (.int 24)) (pureM []))))) st (.tup false [.int 4, .int 8, .int 24]) := fun st => ev_tup (ev_cons ev_pure (ev_cons ev_pure (ev_cons ev_pure ev_nil))) (by rw [sizeLine_eq]; simp)
  -- how many cards, and they
  have deal : ∀ (s4 : S) (m : Nat), m ≤ 60 → Adv (400 * i + 40) s s4 → ∀ Q : Fl → Sta → Prop, (∀ (s5 : S) (ds : List Int), Dk n ds → Adv (400 * i + 110) s s5 → Wp (seqM (ifS (tOrM (tNotM (testM (callM 2 r_Llaw_is_after_right (consM (varM 3) (consM (varM 4) (pureM [])))))) (tNotM (testM (callM 3 r_Llaw_are_twos_right (consM (varM 1) (consM (varM 3) (consM (varM 4) (pureM [])))))))) (seqM (retM (pureM (.bl false))) (
    pureM .nx)) (pureM .nx)) (
    seqM (ifS (tOrM (tNotM (testM (callM 3 r_Llaw_are_parts_right (consM (varM 1) (consM (varM 3) (consM (varM 4) (pureM []))))))) (tNotM (testM (callM 2 r_Llaw_are_plain_right (consM (varM 3) (consM (varM 4) (pureM []))))))) (seqM (retM (pureM (.bl false))) (
    pureM .nx)) (pureM .nx)) (
    pureM .nx))) ⟨s5, [.un, .dat (.raw (.ref s.dk)), .dat x, .dat (.tup true (TH false true t)), .dat (.tup true (I ds))]⟩ Q) → ∃ d s', r_Llaw_cards [.raw (.ref s.dk), .int (n : Int), .int (m : Int)] s4 = some (d, s') ∧ Wp (seqM (ifS (tOrM (tNotM (testM (callM 2 r_Llaw_is_after_right (consM (varM 3) (consM (varM 4) (pureM [])))))) (tNotM (testM (callM 3 r_Llaw_are_twos_right (consM (varM 1) (consM (varM 3) (consM (varM 4) (pureM [])))))))) (seqM (retM (pureM (.bl false))) (
    pureM .nx)) (pureM .nx)) (
    seqM (ifS (tOrM (tNotM (testM (callM 3 r_Llaw_are_parts_right (consM (varM 1) (consM (varM 3) (consM (varM 4) (pureM []))))))) (tNotM (testM (callM 2 r_Llaw_are_plain_right (consM (varM 3) (consM (varM 4) (pureM []))))))) (seqM (retM (pureM (.bl false))) (
    pureM .nx)) (pureM .nx)) (
    pureM .nx))) ⟨s', [.un, .dat (.raw (.ref s.dk)), .dat x, .dat (.tup true (TH false true t)), .dat d]⟩ Q := by
    intro s4 m hm60 a4 Q q
    obtain ⟨ds, s5, e5, hl5, hr5, a5⟩ := cards_ok (n := n) (m := m) (s := s4) hn1 hn8 hm60 (a4.good 70 (g.mono (by omega)))
    rw [a4.dk] at e5
    exact ⟨_, _, e5, q s5 ds ⟨by omega, hr5⟩ ((a4.trans a5).weak (by omega))⟩
  refine wps_set (wp_call.mpr (wp_cons.mpr ((ev_var rfl).wp (wp_cons.mpr ((ev_call (ev_cons (ev_var rfl) ev_nil) (size2_ok ht) rfl).wp (wp_cons.mpr (wp_ifM.mpr (wp_test.mpr (wp_op2.mpr (wps_draw (dk := s.dk) rfl a13.dk.symm ev_pure (by omega) (by omega) (a13.good 1 (g.mono (by omega))) fun w s4 w0 w1 a4 => (ev_pure (x := D.int 0)).wp ⟨_, eqD_ii, _, rfl, ?_⟩))))))))))
  have a14 := a13.trans a4
  have fin : ∀ (s5 : S) (ds : List Int), Dk n ds → Adv (400 * i + 110) s s5 → Wp (seqM (ifS (tOrM (tNotM (testM (callM 2 r_Llaw_is_after_right (consM (varM 3) (consM (varM 4) (pureM [])))))) (tNotM (testM (callM 3 r_Llaw_are_twos_right (consM (varM 1) (consM (varM 3) (consM (varM 4) (pureM [])))))))) (seqM (retM (pureM (.bl false))) (
    pureM .nx)) (pureM .nx)) (
    seqM (ifS (tOrM (tNotM (testM (callM 3 r_Llaw_are_parts_right (consM (varM 1) (consM (varM 3) (consM (varM 4) (pureM []))))))) (tNotM (testM (callM 2 r_Llaw_are_plain_right (consM (varM 3) (consM (varM 4) (pureM []))))))) (seqM (retM (pureM (.bl false))) (
    pureM .nx)) (pureM .nx)) (
    pureM .nx))) ⟨s5, [.un, .dat (.raw (.ref s.dk)), .dat x, .dat (.tup true (TH false true t)), .dat (.tup true (I ds))]⟩ fun fl s3 => match fl with
      | .nx => ∃ s1 x2 x3 x4, s3 = ⟨s1, [.un, .dat (.raw (.ref s.dk)), x2, x3, x4]⟩ ∧ Adv (400 * (i + 1)) s s1
      | .ct => ∃ s1 x2 x3 x4, s3 = ⟨s1, [.un, .dat (.raw (.ref s.dk)), x2, x3, x4]⟩ ∧ Adv (400 * (i + 1)) s s1
      | .bk => Wp (seqM (retM (pureM (.bl true))) (pureM .nx)) s3 fun fl _ => fl = .rt (.bl true)
      | .rt d => Fl.rt d = .rt (.bl true) := by
    intro s5 ds hd a5
    obtain ⟨s6, e6, a6⟩ := twos_right (a := false) (b := true) (c := true) ht hd (a5.good 30 (g.mono (by omega)))
    rw [a5.dk] at e6
    have a56 := a5.trans a6
    obtain ⟨s7, e7, a7⟩ := parts_right (a := false) (b := true) (c := true) ht hd (a56.good 140 (g.mono (by omega)))
    rw [a56.dk] at e7
    have a57 := a56.trans a7
    refine wps_if (wp_tOr.mpr ((ev_tNot (ev_test (ev_call (ev_cons (ev_var rfl) (ev_cons (ev_var rfl) ev_nil)) (after_right ht hd) rfl))).wp ?_))
    rw [if_neg (by decide)]
    refine wp_tNot.mpr (wp_test.mpr (wps_call (ev_cons (ev_var rfl) (ev_cons (ev_var rfl) (ev_cons (ev_var rfl) ev_nil))) rfl ⟨_, _, e6, _, rfl, ?_⟩))
    rw [if_neg (by decide)]
    refine wps_if (wp_tOr.mpr (wp_tNot.mpr (wp_test.mpr (wps_call (ev_cons (ev_var rfl) (ev_cons (ev_var rfl) (ev_cons (ev_var rfl) ev_nil))) rfl ⟨_, _, e7, _, rfl, ?_⟩))))
    rw [if_neg (by decide)]
    refine (ev_tNot (ev_test (ev_call (ev_cons (ev_var rfl) (ev_cons (ev_var rfl) ev_nil)) (plain_right ht hd) rfl))).wp ?_
    rw [if_neg (by decide)]
    exact wp_pure.mpr ⟨s7, _, _, _, rfl, a57.weak (by omega)⟩
  by_cases hw : w = 0
  · rw [if_pos (by simpa using hw)]
    exact (ev_pure (x := D.int 60)).wp (wp_pure.mpr ⟨rfl, deal s4 60 (by omega) (a14.weak (by omega)) _ fin⟩)
  · rw [if_neg (by simpa using hw)]
    obtain ⟨pm, s5, e5, hpm, a5⟩ := pick_ok (b := false) (ds := [.int 4, .int 8, .int 24]) (s := s4) (by simp) (by simp) (a14.good 1 (g.mono (by omega)))
    rw [a14.dk] at e5
    have hpm' : ∃ m : Nat, pm = .int (m : Int) ∧ m ≤ 60 := by
      simp only [List.mem_cons, List.not_mem_nil, or_false] at hpm
      rcases hpm with rfl | rfl | rfl
      · exact ⟨4, rfl, by omega⟩
      · exact ⟨8, rfl, by omega⟩
      · exact ⟨24, rfl, by omega⟩
    obtain ⟨m, rfl, hm60⟩ := hpm'
    exact wps_call (ev_cons (ev_var rfl) (ev_cons (ep _) ev_nil)) rfl ⟨_, _, e5, wp_pure.mpr ⟨rfl, deal s5 m hm60 ((a14.trans a5).weak (by omega)) _ fin⟩⟩
end GA.k06

set_option linter.all false
set_option maxRecDepth 100000
open PySem PySem.W PyProof.Rows
set_option maxHeartbeats 0 in
theorem PySem.Challenge.cw_lotthrows_k06_whole_throws_card_by_card_holds : PySem.Challenge.rw_lotthrows_k06_whole_throws_card_by_card.Holds := by
  w_on; o_law; k_head; (case hw => w_witness2)
  k_fill
  refine GA.walk_law (l := PySem.Challenge.rw_lotthrows_k06_whole_throws_card_by_card) (n := 63) (k := 15) (x := "_law_script") rfl (by decide) rfl ⟨⟨rfl, by decide, by decide⟩, rfl⟩ (fun w h Y => PySem.W.kIn_of Y) ?F
  case F =>
    intro w mg fa h Y KX G hmg own
    refine' GA.k06.all_mk KX G hmg own GA.k06.math ?a_is_integer ?l_is_integer ?c_is_integer ?k_is_integer ?a_is_within ?l_is_within ?c_is_within ?k_is_within ?a_is_size ?l_is_size ?c_is_size ?k_is_size ?a_is_kind ?l_is_kind ?c_is_kind ?k_is_kind ?a_are_kinds ?l_are_kinds ?c_are_kinds ?k_are_kinds ?lc_are_kinds ?pe_are_kinds ?hd_are_kinds ?np_are_kinds ?rc_are_kinds ?a_is_ascending ?l_is_ascending ?c_is_ascending ?k_is_ascending ?a_need_size ?l_need_size ?c_need_size ?k_need_size ?a_need_kind ?l_need_kind ?c_need_kind ?k_need_kind ?a_need_number ?l_need_number ?c_need_number ?k_need_number ?a_is_deck ?l_is_deck ?c_is_deck ?k_is_deck ?lc_is_deck ?pe_is_deck ?hd_is_deck ?np_is_deck ?rc_is_deck ?a_is_order ?l_is_order ?c_is_order ?k_is_order ?lc_is_order ?pe_is_order ?hd_is_order ?np_is_order ?rc_is_order ?a_need_deck ?l_need_deck ?c_need_deck ?k_need_deck ?a_need_order ?l_need_order ?c_need_order ?k_need_order ?a_need_some_order ?l_need_some_order ?c_need_some_order ?k_need_some_order ?a_laid ?l_laid ?c_laid ?k_laid ?a_opposite ?l_opposite ?c_opposite ?k_opposite ?a_counts_of ?l_counts_of ?c_counts_of ?k_counts_of ?a_is_lot ?l_is_lot ?c_is_lot ?k_is_lot ?a_is_signed_lot ?l_is_signed_lot ?c_is_signed_lot ?k_is_signed_lot ?a_is_throw ?l_is_throw ?c_is_throw ?k_is_throw ?lc_is_throw ?pe_is_throw ?hd_is_throw ?np_is_throw ?rc_is_throw ?a_need_throw ?l_need_throw ?c_need_throw ?k_need_throw ?a_size_of ?l_size_of ?c_size_of ?k_size_of ?a_still ?l_still ?c_still ?k_still ?a_turning ?l_turning ?c_turning ?k_turning ?a_position_in ?l_position_in ?c_position_in ?k_position_in ?a_way_of ?l_way_of ?c_way_of ?k_way_of ?a_cards_of_lot ?l_cards_of_lot ?c_cards_of_lot ?k_cards_of_lot ?a_order_after ?l_order_after ?c_order_after ?k_order_after ?a_deck_after ?l_deck_after ?c_deck_after ?k_deck_after ?a_can_come ?l_can_come ?c_can_come ?k_can_come ?a_Llaw_deck ?l_Llaw_deck ?c_Llaw_deck ?k_Llaw_deck ?a_Llaw_draw ?l_Llaw_draw ?c_Llaw_draw ?k_Llaw_draw ?a_Llaw_pick ?l_Llaw_pick ?c_Llaw_pick ?k_Llaw_pick ?a_Llaw_cards ?l_Llaw_cards ?c_Llaw_cards ?k_Llaw_cards ?a_Llaw_order ?l_Llaw_order ?c_Llaw_order ?k_Llaw_order ?a_Llaw_throw ?l_Llaw_throw ?c_Llaw_throw ?k_Llaw_throw ?a_Llaw_size ?l_Llaw_size ?c_Llaw_size ?k_Llaw_size ?a_Llaw_after ?l_Llaw_after ?c_Llaw_after ?k_Llaw_after ?a_Llaw_laid ?l_Llaw_laid ?c_Llaw_laid ?k_Llaw_laid ?a_Llaw_way ?l_Llaw_way ?c_Llaw_way ?k_Llaw_way ?a_Llaw_is_after_right ?l_Llaw_is_after_right ?c_Llaw_is_after_right ?k_Llaw_is_after_right ?a_Llaw_are_twos_right ?l_Llaw_are_twos_right ?c_Llaw_are_twos_right ?k_Llaw_are_twos_right ?a_Llaw_are_parts_right ?l_Llaw_are_parts_right ?c_Llaw_are_parts_right ?k_Llaw_are_parts_right ?a_Llaw_are_plain_right ?l_Llaw_are_plain_right ?c_Llaw_are_plain_right ?k_Llaw_are_plain_right ?a_law ?l_law ?c_law ?k_law ?z_all ?z_bool ?z_dict ?z_enumerate ?z_int ?z_isinstance ?z_len ?z_list ?z_max ?z_range ?z_repr ?z_sorted ?z_sum ?z_tuple ?z_zip ?g_MOST_KINDS ?g_MOST_CARDS ?g_KEPT ?g_TURNED
    (case a_is_integer => k_is)
    (case l_is_integer => k_is)
    (case c_is_integer => k_is)
    (case k_is_integer => k_is)
    (case a_is_within => k_is)
    (case l_is_within => k_is)
    (case c_is_within => k_is)
    (case k_is_within => k_is)
    (case a_is_size => k_is)
    (case l_is_size => k_is)
    (case c_is_size => k_is)
    (case k_is_size => k_is)
    (case a_is_kind => k_is)
    (case l_is_kind => k_is)
    (case c_is_kind => k_is)
    (case k_is_kind => k_is)
    (case a_are_kinds => k_is)
    (case l_are_kinds => k_is)
    (case c_are_kinds => k_is)
    (case k_are_kinds => k_is)
    (case lc_are_kinds => k_is)
    (case pe_are_kinds => rfl)
    (case hd_are_kinds => first | kernel_rfl | rfl | with_unfolding_all rfl | k_is)
    (case np_are_kinds => first | kernel_rfl | rfl | with_unfolding_all rfl | k_is)
    (case rc_are_kinds => decide +kernel)
    (case a_is_ascending => k_is)
    (case l_is_ascending => k_is)
    (case c_is_ascending => k_is)
    (case k_is_ascending => k_is)
    (case a_need_size => k_is)
    (case l_need_size => k_is)
    (case c_need_size => k_is)
    (case k_need_size => k_is)
    (case a_need_kind => k_is)
    (case l_need_kind => k_is)
    (case c_need_kind => k_is)
    (case k_need_kind => k_is)
    (case a_need_number => k_is)
    (case l_need_number => k_is)
    (case c_need_number => k_is)
    (case k_need_number => k_is)
    (case a_is_deck => k_is)
    (case l_is_deck => k_is)
    (case c_is_deck => k_is)
    (case k_is_deck => k_is)
    (case lc_is_deck => k_is)
    (case pe_is_deck => rfl)
    (case hd_is_deck => first | kernel_rfl | rfl | with_unfolding_all rfl | k_is)
    (case np_is_deck => first | kernel_rfl | rfl | with_unfolding_all rfl | k_is)
    (case rc_is_deck => decide +kernel)
    (case a_is_order => k_is)
    (case l_is_order => k_is)
    (case c_is_order => k_is)
    (case k_is_order => k_is)
    (case lc_is_order => k_is)
    (case pe_is_order => rfl)
    (case hd_is_order => first | kernel_rfl | rfl | with_unfolding_all rfl | k_is)
    (case np_is_order => first | kernel_rfl | rfl | with_unfolding_all rfl | k_is)
    (case rc_is_order => decide +kernel)
    (case a_need_deck => k_is)
    (case l_need_deck => k_is)
    (case c_need_deck => k_is)
    (case k_need_deck => k_is)
    (case a_need_order => k_is)
    (case l_need_order => k_is)
    (case c_need_order => k_is)
    (case k_need_order => k_is)
    (case a_need_some_order => k_is)
    (case l_need_some_order => k_is)
    (case c_need_some_order => k_is)
    (case k_need_some_order => k_is)
    (case a_laid => k_is)
    (case l_laid => k_is)
    (case c_laid => k_is)
    (case k_laid => k_is)
    (case a_opposite => k_is)
    (case l_opposite => k_is)
    (case c_opposite => k_is)
    (case k_opposite => k_is)
    (case a_counts_of => k_is)
    (case l_counts_of => k_is)
    (case c_counts_of => k_is)
    (case k_counts_of => k_is)
    (case a_is_lot => k_is)
    (case l_is_lot => k_is)
    (case c_is_lot => k_is)
    (case k_is_lot => k_is)
    (case a_is_signed_lot => k_is)
    (case l_is_signed_lot => k_is)
    (case c_is_signed_lot => k_is)
    (case k_is_signed_lot => k_is)
    (case a_is_throw => k_is)
    (case l_is_throw => k_is)
    (case c_is_throw => k_is)
    (case k_is_throw => k_is)
    (case lc_is_throw => k_is)
    (case pe_is_throw => rfl)
    (case hd_is_throw => first | kernel_rfl | rfl | with_unfolding_all rfl | k_is)
    (case np_is_throw => first | kernel_rfl | rfl | with_unfolding_all rfl | k_is)
    (case rc_is_throw => decide +kernel)
    (case a_need_throw => k_is)
    (case l_need_throw => k_is)
    (case c_need_throw => k_is)
    (case k_need_throw => k_is)
    (case a_size_of => k_is)
    (case l_size_of => k_is)
    (case c_size_of => k_is)
    (case k_size_of => k_is)
    (case a_still => k_is)
    (case l_still => k_is)
    (case c_still => k_is)
    (case k_still => k_is)
    (case a_turning => k_is)
    (case l_turning => k_is)
    (case c_turning => k_is)
    (case k_turning => k_is)
    (case a_position_in => k_is)
    (case l_position_in => k_is)
    (case c_position_in => k_is)
    (case k_position_in => k_is)
    (case a_way_of => k_is)
    (case l_way_of => k_is)
    (case c_way_of => k_is)
    (case k_way_of => k_is)
    (case a_cards_of_lot => k_is)
    (case l_cards_of_lot => k_is)
    (case c_cards_of_lot => k_is)
    (case k_cards_of_lot => k_is)
    (case a_order_after => k_is)
    (case l_order_after => k_is)
    (case c_order_after => k_is)
    (case k_order_after => k_is)
    (case a_deck_after => k_is)
    (case l_deck_after => k_is)
    (case c_deck_after => k_is)
    (case k_deck_after => k_is)
    (case a_can_come => k_is)
    (case l_can_come => k_is)
    (case c_can_come => k_is)
    (case k_can_come => k_is)
    (case a_Llaw_deck => k_is)
    (case l_Llaw_deck => k_is)
    (case c_Llaw_deck => k_is)
    (case k_Llaw_deck => k_is)
    (case a_Llaw_draw => k_is)
    (case l_Llaw_draw => k_is)
    (case c_Llaw_draw => k_is)
    (case k_Llaw_draw => k_is)
    (case a_Llaw_pick => k_is)
    (case l_Llaw_pick => k_is)
    (case c_Llaw_pick => k_is)
    (case k_Llaw_pick => k_is)
    (case a_Llaw_cards => k_is)
    (case l_Llaw_cards => k_is)
    (case c_Llaw_cards => k_is)
    (case k_Llaw_cards => k_is)
    (case a_Llaw_order => k_is)
    (case l_Llaw_order => k_is)
    (case c_Llaw_order => k_is)
    (case k_Llaw_order => k_is)
    (case a_Llaw_throw => k_is)
    (case l_Llaw_throw => k_is)
    (case c_Llaw_throw => k_is)
    (case k_Llaw_throw => k_is)
    (case a_Llaw_size => k_is)
    (case l_Llaw_size => k_is)
    (case c_Llaw_size => k_is)
    (case k_Llaw_size => k_is)
    (case a_Llaw_after => k_is)
    (case l_Llaw_after => k_is)
    (case c_Llaw_after => k_is)
    (case k_Llaw_after => k_is)
    (case a_Llaw_laid => k_is)
    (case l_Llaw_laid => k_is)
    (case c_Llaw_laid => k_is)
    (case k_Llaw_laid => k_is)
    (case a_Llaw_way => k_is)
    (case l_Llaw_way => k_is)
    (case c_Llaw_way => k_is)
    (case k_Llaw_way => k_is)
    (case a_Llaw_is_after_right => k_is)
    (case l_Llaw_is_after_right => k_is)
    (case c_Llaw_is_after_right => k_is)
    (case k_Llaw_is_after_right => k_is)
    (case a_Llaw_are_twos_right => k_is)
    (case l_Llaw_are_twos_right => k_is)
    (case c_Llaw_are_twos_right => k_is)
    (case k_Llaw_are_twos_right => k_is)
    (case a_Llaw_are_parts_right => k_is)
    (case l_Llaw_are_parts_right => k_is)
    (case c_Llaw_are_parts_right => k_is)
    (case k_Llaw_are_parts_right => k_is)
    (case a_Llaw_are_plain_right => k_is)
    (case l_Llaw_are_plain_right => k_is)
    (case c_Llaw_are_plain_right => k_is)
    (case k_Llaw_are_plain_right => k_is)
    (case a_law => k_is)
    (case l_law => k_is)
    (case c_law => k_is)
    (case k_law => k_is)
    (case z_all => k_is)
    (case z_bool => k_is)
    (case z_dict => k_is)
    (case z_enumerate => k_is)
    (case z_int => k_is)
    (case z_isinstance => k_is)
    (case z_len => k_is)
    (case z_list => k_is)
    (case z_max => k_is)
    (case z_range => k_is)
    (case z_repr => k_is)
    (case z_sorted => k_is)
    (case z_sum => k_is)
    (case z_tuple => k_is)
    (case z_zip => k_is)
    (case g_MOST_KINDS => k_is)
    (case g_MOST_CARDS => k_is)
    (case g_KEPT => k_is)
    (case g_TURNED => k_is)
