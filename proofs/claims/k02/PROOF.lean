import PyProof.Rows.All
import Wide.All
import OpenK.AllK
import Wide.FinOn
import HandS.ForMost
import HandS.AnyAll
import HandS.IsInst
import HandS.Style
import HandS.Defaults
import HandS.Head0
import HandS.Head1
import HandS.Head2
import HandS.HeadEnd
import HandS.HeadHook1
import HandS.HeadHook2
import HandS.HeadHook3
import HandS.HeadHook4
import HandS.HeadWalk
import HandS.Exc
import HandS.ExcIs
import HandS.ExcOwn
import HandS.ExcValue
import HandS.SetFor
import HandS.Lambda
import PySem.Challenge.RW_mastershow_k02_worths_of_traits
set_option Elab.async false
set_option linter.all false
set_option maxRecDepth 100000
set_option maxHeartbeats 2000000
/-! all(test of sign for sign in text), the test over the module's own names -/
namespace Gx
open PySem PySem.Spec PyProof.Rows L2 GxR

/-- the element, in any frame of the generator, over the module as it stands -/
def EltG (X : Cx) (scope : Scope) (x : Str) (elt : Expr) (pb : Nat → Bool) : Prop :=
  ∀ (ge : Env) (B : Around) (F : Value → Shared → Prop) (c : Nat) (tk : Tok) (z : Shared) (m : Str → Option Value),
    ge.scope = scope → ge.globals = X.env.globals → z.heap.Ns ge.locals m → m x = some (.str ⟨#[c]⟩ tk) →
    (∀ b o, X.base.get? b = some o → z.heap.get? b = some o) → z.heap.Ns ge.globals X.mg →
    wpAny (model X.prog X.w) B (eval elt ge) (fun y z' => y = .bool (pb c) ∧ Keeps z z') F z

/-- x in G, G a text of the module's -/
theorem elt_inG {X : Cx} {scope : Scope} {x g : Str} {zs : Str} {tz : Tok} {p1 p2 p3 : Pos} (hk : scope.kind = .function) (hl : scope.names.lookup x = some .local)
    (hg : scope.names.lookup g = some .globalImplicit) (hm : X.mg g = some (.str zs tz)) (hd : (x == ("__debug__" : Str)) = false := by decide) (hd2 : (g == ("__debug__" : Str)) = false := by decide) :
    EltG X scope x (.Compare (.Name x p1) [.In] [.Name g p2] p3) (fun c => decide (c ∈ zs.cps.toList)) := by
  intro ge B F c tk z m hs hgl hn hx hb hN
  have kd : ge.scope.kind = .function := by rw [hs]; exact hk
  have kx : ge.scope.names.lookup x = some .local := by rw [hs]; exact hl
  have kg : ge.kindOf g = some .globalImplicit := (show ge.scope.names.lookup g = some .globalImplicit by rw [hs]; exact hg)
  refine wpAny_Compare1 ?_
  refine wpAny_Name (wpAny_loadName_local kd kx hn hx ?_) hd
  refine Calls.Name_function_global kd kg (Calls.loadGlobal_global hN hm ?_) hd2
  refine PyProof.Rows.in_str ?_
  exact ⟨congrArg Value.bool (PySem.StrLaws.found_one zs c), keeps_tok z z.toks⟩

/-- a or b -/
theorem elt_or {X : Cx} {scope : Scope} {x : Str} {a b : Expr} {pa pb : Nat → Bool} {p : Pos} (ha : EltG X scope x a pa) (hb : EltG X scope x b pb) :
    EltG X scope x (.BoolOp .Or [a, b] p) (fun c => pa c || pb c) := by
  intro ge B F c tk z m hs hgl hn hx hbs hN
  refine BoolOp_or (wpAny_mono (ha ge B F c tk z m hs hgl hn hx hbs hN) (fun v z1 hv => ?_) fun _ _ e => e)
  obtain ⟨rfl, h', t', rfl, kp⟩ := hv
  refine wpAny_truthy_bool ?_
  cases hp : pa c with
  | true =>
    refine ⟨?_, h', t', rfl, kp⟩
    show Value.bool true = Value.bool (pa c || pb c)
    rw [hp] <;> rfl
  | false =>
    refine BoolOp_one (wpAny_mono (hb ge B F c tk { z with heap := h', toks := t' } m hs hgl (hn.keeps kp) hx (fun q o e => kp q o (hbs q o e)) (hN.keeps kp)) (fun v z1 hv => ?_) fun _ _ e => e)
    obtain ⟨rfl, h2, t2, rfl, kp2⟩ := hv
    refine ⟨?_, h2, t2, rfl, fun q o e => kp2 q o (kp q o e)⟩
    show Value.bool (pb c) = Value.bool (pa c || pb c)
    rw [hp] <;> rfl

section
variable {X : Cx} {pins : List (Addr × Obj)} {σ : L2.St} {H : Hp} {s : Shared}
theorem gen_G {c P : Addr} {elt iter : Expr} {x : Str} {px gpos : Pos} {scope : Scope} {pb : Nat → Bool} {te : TE} {k : Nat} {W : Value → Shared → Prop} {R : Str → Hp → Prop}
    (room : Room k X.A) (tb : TabB X.base X.mg c P) (code : X.env.code = .ref c) (gs : GenS X.env scope x) (it : PE X iter te) (el : EltG X scope x elt pb)
    (fold : ∀ v, genFold iter X.env v = pure v) (I : Inv X pins σ H s) (h : te σ H fun v H1 => ∃ a : Str, v = .str a ∧ TabG H1 P ∧ R a H1)
    (fin : ∀ a H1 g s5, R a H1 → Ready X pins σ H1 P a pb g s5 → W (.ref g) s5) :
    wpAny (model X.prog X.w) X.A (eval (.GeneratorExp elt [⟨.Name x px, iter, [], 0⟩] scope gpos) X.env) W X.xe s := by
  refine wpAny_GeneratorExp_walksQ room.hd gs.co (closure_ok gs.free) gs.cell gs.dot gs.loc gs.kind (Nat.lt_of_le_of_lt (Nat.le_add_right X.A.depth (3 * k + 5)) (by have := room.dp; omega)) ?_ fold
  refine thn (it.run pins s σ H _ I h) ?_
  rintro xv s1 ⟨v, H1, J, rv, a, rfl, ⟨ps, tP, trip⟩, r⟩
  obtain ⟨t, rfl⟩ := _root_.id rv
  refine wpAny_pyIter_str fun o St walks st0 => ?_
  have atP := J.hok P _ tP
  have atP : s1.heap.get? P = some { cls := .none, data := .fields ps } := atP
  have ltP := Heap.lt_size atP
  have atP' : (s1.heap.push o).get? P = some { cls := .none, data := .fields ps } := Heap.get?_push_of_some _ atP
  have head := tb.code.keeps (h' := s1.heap.push o) fun b u e => Heap.get?_push_of_some _ (J.bk b u e)
  have lim := J.nolimit.push o
  have baseP : ∀ b u, X.base.get? b = some u → b ≠ P := fun b u e q => by
    have n := (J.bs b u e).2
    rw [q, tP] at n
    cases n
  have after : ∀ (cd : Value) (h3 : Heap) (tk : Nat) (ps' : Array Value), Heap.ExtBut P (s1.heap.push o) h3 → (s1.heap.push o).objs.size ≤ h3.objs.size → h3.get? P = some { cls := .none, data := .fields ps' } → (∃ more, ps' = ps ++ more) → TriplesOk ps'.toList →
      wpAny (model X.prog X.w) X.A (builtinsFor X.env.globals X.env.builtins) (fun bi s₄ =>
        ∃ Ia fp wr n₀ Pf St₀ pz F, Value.ref s1.heap.objs.size = .ref Ia ∧ (∀ A' : Around, A'.handled = none → Walks X.prog X.w A' Ia fp wr n₀ Pf St₀) ∧ St₀ 0 s₄.heap ∧ (∀ b ∈ fp, b < s₄.heap.objs.size) ∧ s₄.heap.NoLimit ∧ cStatics ∉ wr ∧
          (∀ href : Heap, (∀ b o, s₄.heap.get? b = some o → href.get? b = some o) →
            QuietGen X.prog X.w (genEnv scope (cloFrom X.env.cells scope.names []) s₄.heap.objs.size cd bi X.env) x [] elt (List.range s₄.heap.objs.size) wr Pf pz F href) ∧
          (∀ a h₅ tk gs, gs.bare = true → s₄.heap.objs.size < a → h₅.objs.size = a + 1 → (∀ b o, s₄.heap.get? b = some o → h₅.get? b = some o) →
            WalksS X.prog X.w X.A.in4 a (a :: s₄.heap.objs.size :: List.range s₄.heap.objs.size) (s₄.heap.objs.size :: wr) (GenOnlyQ s₄.gens.size) (passing pz n₀ 0).length
              (fun j y => ∃ i, (passing pz n₀ 0)[j]? = some i ∧ F i y) (GenAt X.prog X.w X.A.in4 a s₄.gens.size s₄.heap.objs.size (List.range s₄.heap.objs.size) wr pz n₀ F) →
            GenAt X.prog X.w X.A.in4 a s₄.gens.size s₄.heap.objs.size (List.range s₄.heap.objs.size) wr pz n₀ F 0 { s₄ with gens := s₄.gens.push gs, toks := tk, heap := h₅ } →
            W (.ref a) { s₄ with gens := s₄.gens.push gs, toks := tk, heap := h₅ })) X.xe { s1 with heap := h3, toks := tk } := by
    intro cd h3 tk ps' ext size atP3 grown trip3
    obtain ⟨bm, ob, e1, e2, e3, e4, e5, e6, e7, e8⟩ := tb.bm
    have statP : cStatics ≠ P := fun e => by
      obtain ⟨_, hns, _⟩ := J.nolimit
      obtain ⟨o', es, ep, ho, hd, _⟩ := hns
      rw [e, atP] at ho
      cases ho
      cases hd
    have statLt : cStatics < s1.heap.objs.size := let ⟨_, hns, _⟩ := J.nolimit; hns.lt
    have sz2 : (s1.heap.push o).objs.size = s1.heap.objs.size + 1 := Heap.size_push ..
    have kept : ∀ b u, b ≠ P → s1.heap.get? b = some u → h3.get? b = some u := fun b u hb e => ext b u hb (Heap.get?_push_of_some _ e)
    have glob3 : h3.Ns X.env.globals X.mg := by
      rw [J.ok.glob]
      exact ((J.mod.glob.keeps J.bk).push o).extBut ext tb.gP
    refine wpAny_builtinsFor (m := X.mg) glob3 e1 e2 (kept _ _ e4 (J.bk _ _ e5)) e6 e7 e8 ?_
    refine ⟨s1.heap.objs.size, [s1.heap.objs.size], [s1.heap.objs.size], a.cps.size, SignAt a, St, (fun _ => true), (fun i y => ∃ cc, a.cps[i]? = some cc ∧ y = .bool (pb cc)), rfl, walks, ?_, ?_, lim.extBut ext statP, ?_, ?_, ?_⟩
    · refine (walks X.A room.hd).frame _ _ _ st0 fun b hb u e => ext b u (fun z => ?_) e
      have q := List.mem_singleton.mp hb
      exact Nat.ne_of_lt ltP (z.symm.trans q)
    · intro b hb
      rw [List.mem_singleton.mp hb]
      show s1.heap.objs.size < h3.objs.size
      omega
    · intro z
      exact Nat.ne_of_lt statLt (List.mem_singleton.mp z)
    · intro href hhref
      have seen : ∀ s₂ : Shared, (∀ b ∈ List.range h3.objs.size, b ∉ [s1.heap.objs.size] → ∀ o, href.get? b = some o → s₂.heap.get? b = some o) → ∀ b u, b ≠ P → s1.heap.get? b = some u → s₂.heap.get? b = some u := fun s₂ hk b u hb e => by
        have l1 := Heap.lt_size e
        refine hk b (List.mem_range.mpr (Nat.lt_of_lt_of_le l1 (by omega))) (fun q => Nat.ne_of_lt l1 (List.mem_singleton.mp q)) u (hhref b u (kept b u hb e))
      refine ⟨fun A' E' i v s₂ m₂ hA hPv hn hm hk => ?_, fun A' E' i v s₂ m₂ hA hPv hp hn hm hk => ?_⟩
      · simp only [List.forIn_nil]
        exact wpAny_pure ⟨rfl, keeps_refl _⟩
      · obtain ⟨cc, u, hcc, rfl⟩ := hPv
        have gl2 : s₂.heap.Ns X.env.globals X.mg := by
          obtain ⟨og, es, ep, eg, dg, rg⟩ := J.mod.glob
          rw [J.ok.glob]
          exact ⟨og, es, ep, seen s₂ hk _ _ tb.gP (J.bk _ _ eg), dg, rg⟩
        exact wpAny_mono (el _ A' E' cc u s₂ m₂ rfl rfl hn hm (fun b o e => seen s₂ hk b o (baseP b o e) (J.bk b o e)) gl2) (fun y s3 r => ⟨⟨cc, hcc, r.1⟩, r.2⟩) fun _ _ e => e
    · intro g h5 tk5 gst hgb hag hsz5 hk5 W5 hat
      have ep : passing (fun _ : Nat => true) a.cps.size 0 = List.range a.cps.size := GxR.passing_true a.cps.size
      simp only [ep, List.length_range] at W5
      refine fin a H1 g _ r ⟨_, _, _, _, _, W5.in4_1, hat, ?_, fun s' hm => ?_⟩
      · intro j y sj Qj Ej hy hQj
        obtain ⟨i, hij, cc, hcc, rfl⟩ := hy
        obtain ⟨hj, ej⟩ := List.getElem?_eq_some_iff.mp hij
        rw [List.getElem_range] at ej
        subst ej
        have e9 : a.cps.toList[j]? = some cc := by rw [Array.getElem?_toList]; exact hcc
        have hQ2 : Qj (trF pb a.cps.toList j) sj := hQj
        rw [trF_some e9] at hQ2
        exact wpAny_truthy_bool hQ2
      · obtain ⟨more, em⟩ := grown
        have nwr : ∀ b u, s1.heap.get? b = some u → b ∉ h3.objs.size :: [s1.heap.objs.size] := fun b u e hb => by
          have hl := Heap.lt_size e
          rcases List.mem_cons.mp hb with z | z
          · have h9 : (h3.objs.size : Nat) < s1.heap.objs.size := by rw [z] at hl; exact hl
            omega
          · exact Nat.ne_of_lt hl (List.mem_singleton.mp z)
        have after := inv_tab (more := more) (h' := s'.heap) (g' := s'.gens) (d' := s'.drawn) (t' := s'.toks) J tP (fun b u hb e => hm.heap b u (nwr b u e) (hk5 b u (kept b u hb e)))
          (by rw [← em]; exact hm.heap P _ (nwr P _ atP) (hk5 P _ atP3)) (AllBare.movedS (J.bare.push hgb) hm)
        rw [sh_eta s1 s' hm.os] at after
        exact ⟨upd H1 P (.tbl (ps ++ more)), ⟨⟨ps ++ more, upd_same, by rw [← em]; exact trip3⟩, fun b hb => upd_ne hb⟩, after⟩
  refine ⟨lim, ?_⟩
  cases hf : codeAmong gpos ps.toList with
  | none =>
    refine wpAny_genexprCodeX code (head.code atP' trip) (head.tab atP') hf fun c' h' tk hx hge hlt hco' _ htab' _ => ?_
    obtain ⟨o1, vs, f1, tf, fl, tg, inF, tx, tt, op, _, _, _, _, _, _, _, _, _, htr, _⟩ := hco'
    exact after _ h' tk _ hx (Nat.le_trans hge (Nat.le_of_lt hlt)) htab'.2 ⟨_, rfl⟩ htr
  | some cv =>
    refine wpAny_genexprCode_hit code (head.code atP' trip) hf ?_
    exact after cv (s1.heap.push o) s1.toks ps (Heap.ExtBut.refl _ _) (Nat.le_refl _) atP' ⟨#[], by simp⟩ trip
theorem pe_allG {c P : Addr} {elt iter : Expr} {x : Str} {px p pos gpos : Pos} {scope : Scope} {pb : Nat → Bool} {te : TE} {k : Nat}
    (room : Room k X.A) (hg : Gl X "all") (hm : X.mg "all" = none) (tb : TabB X.base X.mg c P) (code : X.env.code = .ref c) (gs : GenS X.env scope x) (it : PE X iter te) (el : EltG X scope x elt pb)
    (fold : ∀ v, genFold iter X.env v = pure v := by intro _; rfl)
    (he : starEach [.GeneratorExp elt [⟨.Name x px, iter, [], 0⟩] scope gpos] X.env = (false, eval (.GeneratorExp elt [⟨.Name x px, iter, [], 0⟩] scope gpos) X.env) :: starEach [] X.env := by rfl) :
    PE X (.Call (.Name "all" p) [.GeneratorExp elt [⟨.Name x px, iter, [], 0⟩] scope gpos] [] pos) (tAllS P pb te) := by
  refine ⟨fun pins s σ H Q I h => ?_⟩
  refine wpAny_Call_Name_kw (ld_blt (u := .builtin "all") I hg hm (by decide +kernel) ?_)
  refine PyProof.Rows.callWith_builtin1 ?_ he (by rfl)
  rw [he]
  show wpAny _ _ (spliced ((false, eval (.GeneratorExp elt [⟨.Name x px, iter, [], 0⟩] scope gpos) X.env) :: backTo pos (starEach [] X.env))) _ _ s
  refine Calls.spliced_cons (gen_G (R := fun a H1 => ∀ H2, Tabbed P H1 H2 → Q (.bl (a.cps.toList.all pb)) H2) room tb code gs it el fold I h fun a H1 g s5 hR hG => ?_)
  obtain ⟨fp, wr, G, F, St, W, hst, htr, hI⟩ := hG
  refine Calls.spliced_nil ?_
  refine call_all_walkS (W.self 0 _ _ _ hst ⟨g, fp, wr, G, _, F, St, _, rfl, W, hst, htr, fun s' hmv => ?_⟩)
  obtain ⟨H2, hT, J⟩ := hI s' hmv
  refine ⟨.bl _, H2, J, rfl, ?_⟩
  rw [all_signs a pb]
  exact hR H2 hT
end
end Gx

set_option Elab.async false
set_option linter.all false
set_option maxRecDepth 100000
set_option maxHeartbeats 2000000
/-! What all these proofs share: a def by its name, kinds of things, the pen that draws. -/
namespace Gx
open PySem PySem.Spec PyProof.Rows L2 GxR
/-! ### a def of the module, by its name -/
structure Dn (P : Program) (w : World) (K : PySem.W.Frag) (mg : Str → Option Value) (base : Heap) (k : Nat) (x : Str) (ps : List Str) (sp : Sp) : Prop where
  ex : ∃ (f : Addr) (fd : FuncData), mg x = some (.ref f) ∧ PySem.W.keepIn K (.ref f) = true ∧ Binds K fd ps [] ∧ FnOk P w K mg base CX0 k f fd ps sp
section
variable {X : Cx} {k : Nat} {x : Str} {ps : List Str} {sp : Sp} {p pos : Pos} {e : Expr} {es : List Expr} {t : TA}
theorem pe_dn (D : Dn X.prog X.w X.K X.mg X.base k x ps sp) (hr : Room k X.A) (hg : Gl X x) (ha : PA X (e :: es) t) (hdb : (x == ("__debug__" : Str)) = false := by decide)
    (he : starEach (e :: es) X.env = (false, eval e X.env) :: starEach es X.env := by rfl) (hpl : (backTo pos (starEach es X.env)).any (·.1) = false := by rfl) :
    PE X (.Call (.Name x p) (e :: es) [] pos) (tCall sp [] E0 t) := by
  obtain ⟨f, fd, hm, hk, hb, F⟩ := D.ex
  exact pe_call F hr hg hm hk hb .nil pass0 ha hdb he hpl
theorem pe_dn0 (D : Dn X.prog X.w X.K X.mg X.base k x ps sp) (hr : Room k X.A) (hg : Gl X x) (hdb : (x == ("__debug__" : Str)) = false := by decide) :
    PE X (.Call (.Name x p) [] [] pos) (tCall sp [] E0 tNil) := by
  obtain ⟨f, fd, hm, hk, hb, F⟩ := D.ex
  exact pe_call0 F hr hg hm hk hb .nil pass0 hdb
end
section
variable {P : Program} {w : World} {K : PySem.W.Frag} {mg : Str → Option Value} {base : Heap}
/-- a def whose code object is told -/
theorem okC {x qual : Str} {params : Arguments} {body : List Stmt} {scope : Scope} {dvs : List V} {kws : List (Str × V)} {d : He.Defn} {fd : FuncData} {CX : CXT} {N ps : List Str} {k : Nat} {sp : Sp}
    (F : FunD K x qual params body scope dvs kws (He.fAd K d) fd) (S : FnScope N ps scope) (len : ∀ vs H Q E, sp vs H Q E → vs.length = ps.length)
    (hbody : ∀ (c : Value) (A : Around) (outer : List Env) (s : Shared) (H : Hp) (vs : List V) (Q : VK) (E : XK), c = .ref (He.codeOf K d) → Room k (A.deeper (envOfC qual scope s.heap.objs.size (He.fAd K d) c)) → sp vs H Q E →
      ∃ t, PSs (cxOf CX P w K mg base N qual scope (He.fAd K d) c A outer s H E) body t ∧ t { nx := fun _ H' => Q .non H', rt := Q } (start N vs) H) : FnOk P w K mg base CX (k + 1) (He.fAd K d) fd ps sp := by
  obtain ⟨oc, od, dV, kV, doc, pm, an, cdv, ct, osl, rfl, lk, hcd, _, _⟩ := F.ex
  obtain ⟨c, rfl⟩ := He.codeIn_ref hcd
  exact fn_of lk hcd S len fun A outer s H vs Q E hr hsp => hbody _ A outer s H vs Q E (congrArg Value.ref (He.codeOf_eq lk rfl).symm) hr hsp
end
theorem iteNb {b : Bool} {A B : Prop} (h1 : b = false → A) (h2 : b = true → B) : if (!b) = true then A else B := by
  cases b with
  | false => exact h1 rfl
  | true => exact iteF (h2 rfl)
theorem iteB {b : Bool} {A B : Prop} (h1 : b = true → A) (h2 : b = false → B) : if b = true then A else B := by
  cases b with
  | true => exact h1 rfl
  | false => exact iteF (h2 rfl)
theorem at_any {α : Type} {xs : List α} {z : Int} {j : Nat} {v : α} (e : z = (j : Int)) (h : xs[j]? = some v) : atI xs z = some v := by
  rw [e]
  exact atI_nat h
/-- two ways that meet again with some number -/
theorem viaInt {A : Prop} {R : Int → Prop} (h : (∀ c, R c) → A) (r : ∀ c, R c) : A := h r
section
variable {P : Program} {w : World} {K : PySem.W.Frag} {mg : Str → Option Value} {base : Heap} {x qual : Str} {params : Arguments} {body : List Stmt} {scope : Scope} {dvs : List V} {kws : List (Str × V)} {N ps : List Str} {k : Nat} {sp : Sp}
/-- a def that raises nothing -/
theorem okN {f : Addr} {fd : FuncData} {CX : CXT} (F : FunD K x qual params body scope dvs kws f fd) (S : FnScope N ps scope) (len : ∀ vs H Q E, sp vs H Q E → vs.length = ps.length)
    (hbody : ∀ (c : Value) (A : Around) (outer : List Env) (s : Shared) (H : Hp) (vs : List V) (Q : VK) (E : XK), Room k (A.deeper (envOfC qual scope s.heap.objs.size f c)) → sp vs H Q E →
      ∃ t, PSs (cxOf CX P w K mg base N qual scope f c A outer s H E).nox body t ∧ t { nx := fun _ H' => Q .non H', rt := Q } (start N vs) H) : FnOk P w K mg base CX (k + 1) f fd ps sp :=
  F.ok S len fun c A outer s H vs Q E hr h => let ⟨t, ht, q⟩ := hbody c A outer s H vs Q E hr h; ⟨t, ht.nox, q⟩
theorem okCN {d : He.Defn} {fd : FuncData} {CX : CXT} (F : FunD K x qual params body scope dvs kws (He.fAd K d) fd) (S : FnScope N ps scope) (len : ∀ vs H Q E, sp vs H Q E → vs.length = ps.length)
    (hbody : ∀ (c : Value) (A : Around) (outer : List Env) (s : Shared) (H : Hp) (vs : List V) (Q : VK) (E : XK), c = .ref (He.codeOf K d) → Room k (A.deeper (envOfC qual scope s.heap.objs.size (He.fAd K d) c)) → sp vs H Q E →
      ∃ t, PSs (cxOf CX P w K mg base N qual scope (He.fAd K d) c A outer s H E).nox body t ∧ t { nx := fun _ H' => Q .non H', rt := Q } (start N vs) H) : FnOk P w K mg base CX (k + 1) (He.fAd K d) fd ps sp :=
  okC F S len fun c A outer s H vs Q E hc hr h => let ⟨t, ht, q⟩ := hbody c A outer s H vs Q E hc hr h; ⟨t, ht.nox, q⟩
end
/-- a generator's scope that takes nothing from the def around it -/
theorem gs_plain {env : Env} {scope : Scope} {x : Str} (h1 : scope.kind = .function) (h2 : scope.isCoroutine = false) (h3 : scope.names.lookup (".0" : Str) = some NameKind.local) (h4 : scope.names.lookup x = some .local)
    (h5 : (scope.names.all fun y => decide (y.2 ≠ .cell) && decide (y.2 ≠ .free)) = true) : GenS env scope x := by
  have h6 := List.all_eq_true.mp h5
  refine ⟨h1, h2, fun y hy => ?_, h3, h4, fun y hy e => ?_⟩
  · have h7 := h6 y hy
    rw [Bool.and_eq_true] at h7
    exact of_decide_eq_true h7.1
  · have h7 := h6 y hy
    rw [Bool.and_eq_true] at h7
    exact absurd e (of_decide_eq_true h7.2)
/-! ### text * number -/
theorem op_mul_str {X : Cx} : OpR X (binaryOp .Mult) (fun x y H Q => ∃ (z : Str) (n : Int), x = .str z ∧ y = .int n ∧ MulOk z n ∧ Q (.str (Txt.mul z n)) H) := by
  intro pins s σ H x y v u Q I rx ry h
  obtain ⟨z, n, rfl, rfl, ok, q⟩ := h
  obtain ⟨t, rfl⟩ := rx
  obtain ⟨t', rfl⟩ := ry
  exact SB.mul ok fun t2 k => ⟨.str _, H, I.tok k, ⟨_, rfl⟩, q⟩
theorem mulOk {z : Str} {n : Int} (h1 : z.length ≤ 1000) (h2 : 0 ≤ n) (h3 : n ≤ 1000) : MulOk z n := by
  refine ⟨?_, fun h4 _ => ?_, fun h4 _ => ?_⟩
  · have a1 : ¬ n < -(2 ^ 63 : Int) := by omega
    have a2 : ¬ n ≥ 2 ^ 63 := by omega
    rw [decide_eq_false a1, decide_eq_false a2] <;> rfl
  · have h6 : (z.length : Int) * n ≤ 1000 * 1000 := Int.mul_le_mul (by omega) h3 h2 (by decide)
    have h5 : (z.length : Int) ≤ (2 ^ 63 - 1) / n := Int.le_ediv_of_mul_le (by omega) (by omega)
    omega
  · have h6 : z.length * n.toNat ≤ 1000 * 1000 := Nat.mul_le_mul h1 (by omega)
    show decide (z.length * n.toNat > sizeLine) = false
    exact decide_eq_false (by rw [sizeLine_eq]; omega)
/-! ### kinds of things -/
/-- a thing that the laws hand in: its type is known -/
inductive Th (H : Hp) : V → Prop where
  | non : Th H .non
  | bl (b : Bool) : Th H (.bl b)
  | int (i : Int) : Th H (.int i)
  | str (z : Str) : Th H (.str z)
  | lst {a : Addr} {xs : List V} (e : H a = some (.lst xs)) : Th H (.ref a)
  | tup {a : Addr} {xs : List V} (e : H a = some (.tup xs)) : Th H (.ref a)
  | dK {a : Addr} {kvs : List (Key × V)} (e : H a = some (.dK kvs)) : Th H (.ref a)
def isStr : V → Bool
  | .str _ => true
  | _ => false
def isBl : V → Bool
  | .bl _ => true
  | _ => false
theorem Th.str_ {K : PySem.W.Frag} {H : Hp} {v : V} (h : Th H v) : ∃ t, TyX K H v t ∧ PySem.W.kitOne K t (.type "str") = some (isStr v) := by
  cases h with
  | non => exact ⟨_, .base .non, kit_ty (r := false) (by decide +kernel)⟩
  | bl b => exact ⟨_, .base (.bl b), kit_ty (r := false) (by decide +kernel)⟩
  | int i => exact ⟨_, .base (.int i), kit_ty (r := false) (by decide +kernel)⟩
  | str z => exact ⟨_, .base (.str z), kit_ty (r := true) (by decide +kernel)⟩
  | lst e => exact ⟨_, .base (.lst e), kit_ty (r := false) (by decide +kernel)⟩
  | tup e => exact ⟨_, .base (.tup e), kit_ty (r := false) (by decide +kernel)⟩
  | dK e => exact ⟨_, .base (.dK e), kit_ty (r := false) (by decide +kernel)⟩
/-! ### names -/
def LETS : Str := "abcdefghijklmnopqrstuvwxyz"
def FIGS : Str := "0123456789"
def isLet (c : Nat) : Bool := decide (c ∈ LETS.cps.toList)
def isFig (c : Nat) : Bool := decide (c ∈ FIGS.cps.toList)
def nameB (z : Str) : Bool := decide (1 ≤ (z.length : Int)) && (decide ((z.length : Int) ≤ 8) && ((match z.cps.toList with
  | [] => false
  | c :: _ => isLet c) && z.cps.toList.all fun c => isLet c || isFig c))
def nameV : V → Bool
  | .str z => nameB z
  | _ => false
theorem nameV_no {v : V} (h : isStr v = false) : nameV v = false := by
  cases v <;> first | rfl | cases h
theorem cps_len (z : Str) : z.cps.toList.length = z.length := by simp [Str.length]
theorem head_of {z : Str} (h : 1 ≤ (z.length : Int)) : ∃ c r, z.cps.toList = c :: r := by
  have hl := cps_len z
  cases e : z.cps.toList with
  | nil =>
    rw [e] at hl
    have h1 : (0 : Nat) = z.length := hl
    omega
  | cons c r => exact ⟨c, r, rfl⟩
theorem all_id {l : List Nat} {pb : Nat → Bool} : (l.map pb).all id = l.all pb := by
  rw [List.all_map] <;> rfl
theorem both_lets (c : Nat) : decide (c ∈ (LETS ++ FIGS).cps.toList) = (isLet c || isFig c) := by
  have e : (LETS ++ FIGS).cps.toList = LETS.cps.toList ++ FIGS.cps.toList := by
    show (LETS.cps ++ FIGS.cps).toList = _
    rw [Array.toList_append]
  unfold isLet isFig
  rw [e, Bool.eq_iff_iff, decide_eq_true_eq, List.mem_append, Bool.or_eq_true, decide_eq_true_eq, decide_eq_true_eq]
/-- a list over a text's signs -/
theorem lc_str {z : Str} {g : TG} {tt : TT} {te : TE} {vs : List Nat} {σ : L2.St} {H1 : Hp} {D : Addr} {Qd : Hp → Prop} (Pv : Nat → Hp → Prop) (h0 : Pv 0 (upd H1 D (.lst [])))
    (hs : ∀ i c H, z.cps.toList[i]? = some c → Pv i H → g (.str ⟨#[c]⟩) (wipe σ vs) H fun σ2 H2 => wipe σ2 vs = wipe σ vs ∧ tt σ2 H2 fun b H3 =>
      if b = true then te σ2 H3 fun y H4 => ∃ acc, H4 D = some (.lst acc) ∧ acc.length < sizeLine ∧ Pv (i + 1) (upd H4 D (.lst (acc ++ [y]))) else Pv (i + 1) H3) (hd : ∀ H, Pv z.cps.toList.length H → Qd H) :
    ∃ W : Nat → Nat → Hp → Prop, (∃ m, W 0 m (upd H1 D (.lst []))) ∧ ∀ i m H, W i m H →
      ((Its z).stop i H ∧ Qd H) ∨ ((Its z).go i H ∧ ∃ Nx : Hp → Prop, (∀ H', Nx H' → ∃ m', m' < m ∧ W (i + 1) m' H') ∧ ∀ x H', (Its z).yld i H x H' → g x (wipe σ vs) H' fun σ2 H2 => wipe σ2 vs = wipe σ vs ∧ tt σ2 H2 fun b H3 =>
        if b = true then te σ2 H3 fun y H4 => ∃ acc, H4 D = some (.lst acc) ∧ acc.length < sizeLine ∧ Nx (upd H4 D (.lst (acc ++ [y]))) else Nx H3) := by
  have el : z.cps.toList.length = z.cps.size := Array.length_toList
  refine ⟨fun i m H => m = z.cps.size - i ∧ i ≤ z.cps.size ∧ Pv i H, ⟨_, rfl, Nat.zero_le _, h0⟩, ?_⟩
  rintro i m H ⟨rfl, hi, pv⟩
  rcases Nat.lt_or_ge i z.cps.size with lt | ge
  · refine .inr ⟨lt, Pv (i + 1), fun H' q => ⟨_, Nat.sub_succ_lt_self _ _ lt, rfl, lt, q⟩, ?_⟩
    rintro x H' ⟨rfl, c, ec, rfl⟩
    exact hs i c _ (by rw [Array.getElem?_toList]; exact ec) pv
  · obtain rfl : i = z.cps.size := Nat.le_antisymm hi ge
    exact .inl ⟨Nat.le_refl _, hd H (by rw [el]; exact pv)⟩
theorem bls_take {l : List Nat} {pb : Nat → Bool} {i c : Nat} (h : l[i]? = some c) : (l.take (i + 1)).map pb = (l.take i).map pb ++ [pb c] := by
  rw [List.take_add_one, h, List.map_append] <;> rfl
/-! ### the pen -/
structure Pen (H : Hp) (p L : Addr) (ns : List Int) (n : Nat) : Prop where
  at_ : ∃ a r : Int, H p = some (.lst [.ref L, .int a, .int r]) ∧ 0 ≤ a ∧ a ≤ n
  ls : H L = some (.lst (ns.map V.int))
  few : ns.length ≤ 63
theorem Pen.ne {H : Hp} {p L : Addr} {ns : List Int} {n : Nat} (h : Pen H p L ns n) : p ≠ L := by
  intro e
  obtain ⟨a, r, h1, _⟩ := h.at_
  have h2 := h.ls
  rw [← e, h1] at h2
  have h3 := HO.lst.inj (Option.some.inj h2)
  cases ns with
  | nil => cases h3
  | cons z r => cases (List.cons.inj h3).1
theorem Pen.up {H : Hp} {p L : Addr} {ns : List Int} {n m : Nat} (h : Pen H p L ns n) (hm : n ≤ m) : Pen H p L ns m := by
  obtain ⟨⟨a, r, h1, h2, h3⟩, h4, h5⟩ := h
  exact ⟨⟨a, r, h1, h2, by omega⟩, h4, h5⟩
/-- set anew -/
theorem Pen.put {H : Hp} {p L : Addr} {ns : List Int} {n m : Nat} {a r : Int} (h : Pen H p L ns n) (h1 : 0 ≤ a) (h2 : a ≤ m) : Pen (upd H p (.lst [.ref L, .int a, .int r])) p L ns m :=
  ⟨⟨a, r, upd_same, h1, h2⟩, by rw [upd_ne h.ne.symm]; exact h.ls, h.few⟩
theorem Pen.keep {H H' : Hp} {p L : Addr} {ns : List Int} {n : Nat} (h : Pen H p L ns n) (hp : H' p = H p) (hl : H' L = H L) : Pen H' p L ns n := by
  obtain ⟨⟨a, r, h1, h2, h3⟩, h4, h5⟩ := h
  exact ⟨⟨a, r, by rw [hp]; exact h1, h2, h3⟩, by rw [hl]; exact h4, h5⟩
theorem Pen.keep' {H H' : Hp} {p L : Addr} {ns : List Int} {n : Nat} (h : Pen H p L ns n) (k : Same H H') : Pen H' p L ns n := by
  obtain ⟨⟨a, r, h1, h2, h3⟩, h4, h5⟩ := h
  exact ⟨⟨a, r, k _ _ h1, h2, h3⟩, k _ _ h4, h5⟩
/-- only the pen has changed -/
def But (p : Addr) (H H' : Hp) : Prop := ∀ b, b ≠ p → H' b = H b
theorem But.refl {p : Addr} {H : Hp} : But p H H := fun _ _ => rfl
theorem But.trans {p : Addr} {H H1 H2 : Hp} (a : But p H H1) (b : But p H1 H2) : But p H H2 := fun c h => (b c h).trans (a c h)
theorem But.upd {p : Addr} {H : Hp} {o : HO} : But p H (upd H p o) := fun _ h => upd_ne h
theorem strAt {z : Str} {k : Int} (h0 : 0 ≤ k) (h1 : k < (z.length : Int)) : ∃ c, atI z.cps.toList k = some c := by
  obtain ⟨j, rfl⟩ : ∃ j : Nat, k = (j : Int) := ⟨_, (Int.toNat_of_nonneg h0).symm⟩
  have hj : j < z.cps.toList.length := by rw [cps_len]; omega
  exact ⟨_, atI_nat (List.getElem?_eq_getElem hj)⟩
theorem listAt {xs : List V} {k : Int} (h0 : 0 ≤ k) (h1 : k < (xs.length : Int)) : ∃ v, atI xs k = some v ∧ v ∈ xs := by
  obtain ⟨j, rfl⟩ : ∃ j : Nat, k = (j : Int) := ⟨_, (Int.toNat_of_nonneg h0).symm⟩
  have hj : j < xs.length := by omega
  exact ⟨_, atI_nat (List.getElem?_eq_getElem hj), List.getElem_mem hj⟩
/-- what was tracked, but for the pen, is as it was -/
def Kp (p : Addr) (H H' : Hp) : Prop := ∀ b o, H b = some o → b ≠ p → H' b = some o
theorem Kp.refl {p : Addr} {H : Hp} : Kp p H H := fun _ _ h _ => h
theorem Kp.trans {p : Addr} {H H1 H2 : Hp} (a : Kp p H H1) (b : Kp p H1 H2) : Kp p H H2 := fun c o h n => b c o (a c o h n) n
theorem But.kp {p : Addr} {H H' : Hp} (a : But p H H') : Kp p H H' := fun b o h n => (a b n).trans h
theorem Kp.new {p D : Addr} {H : Hp} {o : HO} (h : H D = none) : Kp p H (upd H D o) := fun b u e _ => by rw [upd_ne (ne_of_none e h)]; exact e
theorem Pen.new {H : Hp} {p L D : Addr} {ns : List Int} {n : Nat} {o : HO} (h : Pen H p L ns n) (hD : H D = none) : Pen (upd H D o) p L ns n := by
  obtain ⟨a, r, h1, _⟩ := h.at_
  exact h.keep (upd_ne (ne_of_none h1 hD)) (upd_ne (ne_of_none h.ls hD))
theorem Pen.lt_new {H : Hp} {p L D : Addr} {ns : List Int} {n : Nat} (h : Pen H p L ns n) (hD : H D = none) : D ≠ p := by
  obtain ⟨a, r, h1, _⟩ := h.at_
  exact (ne_of_none h1 hD).symm
theorem cut63 {xs : List V} (h : xs.length ≤ 63) : cutV xs none (some 63) = xs := by
  unfold cutV
  rw [HT.sIx_none, show HT.sIx xs.length xs.length (some 63) = min 63 xs.length from HT.sIx_nat xs.length xs.length 63, Nat.min_eq_right h, Nat.sub_zero, List.drop_zero]
  exact List.take_length
theorem len_add (a b : Str) : (a ++ b).length = a.length + b.length := by
  show (a.cps ++ b.cps).size = _
  rw [Array.size_append] <;> rfl
theorem len_one (c : Nat) : (⟨#[c]⟩ : Str).length = 1 := rfl
theorem ones_sum : ∀ {ys : List Str}, (∀ y ∈ ys, y.length = 1) → (ys.map (·.length)).sum = ys.length
  | [], _ => rfl
  | y :: r, h => by
    have ih := ones_sum (ys := r) fun z hz => h z (List.mem_cons_of_mem _ hz)
    have h1 := h y List.mem_cons_self
    show (y.length :: r.map (·.length)).sum = r.length + 1
    rw [List.sum_cons, ih, h1]
    omega
theorem ones_join {ys : List Str} (h : ∀ y ∈ ys, y.length = 1) : (Txt.join ("" : Str) ys).length ≤ ys.length := by
  have h2 := StrLaws.join_length_le ("" : Str) ys
  rw [ones_sum h, show ("" : Str).length = 0 by decide +kernel, Nat.mul_zero, Nat.add_zero] at h2
  rw [show Txt.join ("" : Str) ys = Str.join ("" : Str) ys from StrLaws.glued_eq_join ("" : Str) ys]
  exact h2
theorem mul_len {z : Str} (h : z.length ≤ 20) : (Txt.mul z 2).length ≤ 40 := by
  unfold Txt.mul
  rw [if_neg (by decide)]
  split
  · omega
  · show ((List.replicate 2 z.cps).foldl (· ++ ·) #[]).size ≤ 40
    show ((#[] ++ z.cps) ++ z.cps).size ≤ 40
    rw [Array.size_append, Array.size_append]
    have h2 : z.cps.size ≤ 20 := h
    show 0 + z.cps.size + z.cps.size ≤ 40
    omega
/-- what was tracked, but for a table, is as it was -/
theorem Th.kt {H H' : Hp} {P' : Addr} {v : V} (h : Th H v) (g : TabG H P') (k : ∀ b o, H b = some o → b ≠ P' → H' b = some o) : Th H' v := by
  obtain ⟨ps, g, _⟩ := g
  cases h with
  | non => exact .non
  | bl b => exact .bl b
  | int i => exact .int i
  | str z => exact .str z
  | lst e => exact .lst (k _ _ e (ne_of e g (fun q => by cases q)))
  | tup e => exact .tup (k _ _ e (ne_of e g (fun q => by cases q)))
  | dK e => exact .dK (k _ _ e (ne_of e g (fun q => by cases q)))
theorem tabbedKt {P' : Addr} {H H' : Hp} (h : Tabbed P' H H') : ∀ b o, H b = some o → b ≠ P' → H' b = some o := fun b o e n => (h.2 b n).trans e
theorem Pen.kt {H H' : Hp} {p L P' : Addr} {ns : List Int} {n : Nat} (h : Pen H p L ns n) (g : TabG H P') (k : ∀ b o, H b = some o → b ≠ P' → H' b = some o) : Pen H' p L ns n := by
  obtain ⟨ps, g, _⟩ := g
  obtain ⟨⟨a, r, h1, h2, h3⟩, h4, h5⟩ := h
  exact ⟨⟨a, r, k _ _ h1 (ne_of h1 g (fun q => by cases q)), h2, h3⟩, k _ _ h4 (ne_of h4 g (fun q => by cases q)), h5⟩
theorem tabSame {P' : Addr} {H H' : Hp} (g : TabG H P') (k : Same H H') : TabG H' P' := by
  obtain ⟨ps, g, t⟩ := g
  exact ⟨ps, k _ _ g, t⟩
theorem tabKp {p P' : Addr} {H H' : Hp} {a : List V} (g : TabG H P') (hp : H p = some (.lst a)) (k : Kp p H H') : TabG H' P' := by
  obtain ⟨ps, g, t⟩ := g
  exact ⟨ps, k _ _ g (ne_of g hp (fun q => by cases q)), t⟩
theorem Pen.tab {H H' : Hp} {p L P' : Addr} {ns : List Int} {n : Nat} (h : Pen H p L ns n) (g : TabG H P') (k : Kp p H H') : TabG H' P' := by
  obtain ⟨a, r, h1, _⟩ := h.at_
  exact tabKp g h1 k
theorem same_new {D : Addr} {H : Hp} {o : HO} (h : H D = none) : Same H (upd H D o) := fun b u e => by rw [upd_ne (ne_of_none e h)]; exact e
theorem sameKp {p : Addr} {H H' : Hp} (h : Same H H') : Kp p H H' := fun b o e _ => h b o e
/-- a thing of known type, a text that is not too long -/
def Ok1 (H : Hp) (v : V) : Prop := Th H v ∧ ∀ z, v = .str z → z.length ≤ sizeLine
theorem Th.same {H H' : Hp} {v : V} (h : Th H v) (k : Same H H') : Th H' v := by
  cases h with
  | non => exact .non
  | bl b => exact .bl b
  | int i => exact .int i
  | str z => exact .str z
  | lst e => exact .lst (k _ _ e)
  | tup e => exact .tup (k _ _ e)
  | dK e => exact .dK (k _ _ e)
theorem ok_str {H : Hp} {z : Str} (h : z.length ≤ sizeLine) : Ok1 H (.str z) := ⟨.str z, fun _ e => by cases e; exact h⟩
theorem ok_ref {H : Hp} {a : Addr} (h : Th H (.ref a)) : Ok1 H (.ref a) := ⟨h, fun _ e => nomatch e⟩
def spDraw : Sp := fun vs H Q _ => ∃ (p L : Addr) (ns : List Int) (n : Nat) (many : Int), vs = [.ref p, .int many] ∧ Pen H p L ns n ∧ 0 < many ∧ many < 1000000 ∧ n < 1000000 ∧
  ∀ (k : Int) (H' : Hp), 0 ≤ k → k < many → Pen H' p L ns (n + 1) → But p H H' → Q (.int k) H'
end Gx

set_option Elab.async false
set_option linter.all false
set_option maxRecDepth 100000
set_option maxHeartbeats 2000000
/-! Errors that are caught and kept behind the suite: isinstance of them. -/
namespace Gc
open PySem PySem.Spec PyProof.Rows L2 GxR Gx
/-- a caught error, kept as a value -/
def ExK (cls : Value) (d : Option Addr) (a : Addr) : HO := .ext fun h => ∃ (oe : Obj) (vs : Array Value), h.get? a = some oe ∧ Zc cls d oe ∧ oe.data = .fields vs
section
variable {X : Cx} {pins : List (Addr × Obj)} {σ : L2.St} {H : Hp} {s : Shared}
/-- an object that the def's entry didn't know may be tracked from now on -/
theorem track {a : Addr} {oe : Obj} {vs : Array Value} {cls : Value} {d : Option Addr} (I : Inv X pins σ H s) (ho : s.heap.get? a = some oe) (hz : Zc cls d oe) (hd : oe.data = .fields vs) (hn : H a = none) (h0 : X.s_0.heap.get? a = none)
    (nL : a ≠ X.env.locals) (nP : ∀ p ∈ X.pn ++ pins, p.1 ≠ a) : Inv X pins σ (upd H a (ExK cls d a)) s := by
  have other : ∀ {b : Addr} {u : HO}, H b = some u → upd H a (ExK cls d a) b = some u := fun {b u} e => by rw [upd_ne (ne_of_none e hn)]; exact e
  have away : ∀ {b : Addr}, b ≠ a → H b = none → upd H a (ExK cls d a) b = none := fun {b} n e => by rw [upd_ne n]; exact e
  refine ⟨I.ok, I.os, I.bare, ⟨I.base.keep, I.base.slot, fun b o e n hx => ?_, I.base.there, fun b xs e => other (I.base.tups b xs e), fun b o u e => other (I.base.frzs b o u e), fun b ps e => ?_⟩, I.loc, I.cell, away nL.symm I.free, fun x c e => ?_, fun p hp => ?_, fun b u e => ?_, I.len⟩
  · refine away (fun z => ?_) (I.base.free b o e n hx)
    rw [z, h0] at e
    cases e
  · obtain ⟨m, q⟩ := I.base.tbls b ps e
    exact ⟨m, other q⟩
  · refine away (fun z => ?_) (I.freeC x c e)
    obtain ⟨v, o, q, dc⟩ := I.cell x c e
    rw [z, ho] at q
    cases q
    rw [hd] at dc
    cases dc
  · obtain ⟨e, n, r⟩ := I.pin p hp
    exact ⟨e, away (nP p hp) n, r⟩
  · by_cases hb : b = a
    · rw [hb, upd_same] at e
      cases e
      rw [hb]
      exact ⟨⟨oe, vs, ho, hz, hd⟩, ⟨oe, ho⟩, fun h1 h2 ⟨o, v, q, r⟩ k => ⟨o, v, k o q, r⟩⟩
    · rw [upd_ne hb] at e
      exact (I.hok b u e).stay (fun c v _ q => q) (fun c q => other q) fun c xs q => other q
/-- what 'except x as n' wishes, the error kept -/
def wHold (K : PySem.W.Frag) (c : Value) (i : Nat) (ts : Addr → Value → Option Addr → TS) (Wout : WX) (D : Ends) : WX := fun cls d σ H =>
  ∃ b, PySem.W.exmOne K cls c = some b ∧ (b = true → ∀ a, H a = none → ts a cls d { nx := fun σ' H' => D.nx (σ'.set i none) (upd H' a (ExK cls d a)), rt := D.rt, bk := fun σ' H' => D.bk (σ'.set i none) (upd H' a (ExK cls d a)), ct := fun σ' H' => D.ct (σ'.set i none) (upd H' a (ExK cls d a)) } (σ.set i (some (.ref a))) H) ∧
    (b = false → Wout cls d σ H)
end
section
variable {X : Cx} {x n : Str} {c : Value} {i : Nat} {body suite : List Stmt} {b₀ : Stmt} {np pos pos' : Pos} {tb : WX → TS} {ts : Addr → Value → Option Addr → TS} {Wout : WX}
theorem ps_try_hold (hex : X.ex = []) (hs : X.stack = X.env :: X.outer) (hf : X.env.frame = some X.env.locals) (hN : X.N.Nodup) (hi : X.N[i]? = some n) (hln : X.env.kindOf n = some .local) (hc : Names X x c) (tk : Takes X Wout)
    (hb : ∀ (W : WX) (pn : List (Addr × Obj)) (xe : Value → Shared → Prop), Takes (X.tr pn xe) W → PassesOwn (model X.prog X.w) X.A X.env xe → PSs (X.tr pn xe) body (tb W))
    (hsu : ∀ (a : Addr) (oe : Obj) (cls : Value) (d : Option Addr) (pn : List (Addr × Obj)), Zc cls d oe → (∃ vs, oe.data = .fields vs) → PSs (X.suite a ((a, oe) :: pn)) (b₀ :: suite) (ts a cls d)) :
    PS X (.Try body [.ExceptHandler (some (.Name x np)) (some n) (b₀ :: suite) pos'] [] [] pos) (fun D σ H => tb (wHold X.K c i ts Wout D) D σ H) := by
  refine ⟨fun pins s σ H D I h => wpAny_Try_except (wpAny_mono ((hb (wHold X.K c i ts Wout D) (X.pn ++ pins) (fun e s₁ => wpAny (model X.prog X.w) X.A (noteFrame e X.env) (fun _ s₂ => wpAny (model X.prog X.w) X.A (setFlight e none) (fun _ s₃ =>
    wpAny (model X.prog X.w) X.A (handleBy e X.env [.ExceptHandler (some (.Name x np)) (some n) (b₀ :: suite) pos']) (SP X pins D) X.xe s₃) X.xe s₂) X.xe s₁) (fun u s' z => ?_) PassesOwn.looking).run [] s σ H D (I.toTry _) h) (fun f s1 q => ?_) fun _ _ z => z)⟩
  · have ok := I.ok
    have hfr : X.A.frames = some (X.env :: X.outer) := by rw [ok.frames, hs]
    obtain ⟨a, B, sI, pins', σ', H', cls, d, rfl, J', nb, up, sky, na, os, ag, b, hb1, hyes, hno⟩ := z
    have J : Inv X pins σ' H' sI := J'.ofTry ok
    rw [show (X.tr (X.pn ++ pins) _).stack = X.env :: X.outer from hs] at sky
    show wpAny (model X.prog X.w) X.A (noteFrame (.ref a) X.env) _ _ _
    refine Sky.land Zc.steady hfr hf sky fun h3 fl up3 => ?_
    have J3 : Inv X pins σ' H' { s' with heap := h3 } := J.landed nb fl.1 (up.trans up3) os ag
    obtain ⟨oe, vs, he, hz, hd⟩ := fl.there
    have nfr : a ∉ frs (X.env :: X.outer) := fun hm => by
      obtain ⟨_, o, e, hnf⟩ := fl.2.2.1.mem hm
      cases he.symm.trans e
      exact hnf _ hd
    have nL : a ≠ X.env.locals := fun z => nfr (List.mem_filterMap.mpr ⟨X.env, List.mem_cons_self, by rw [hf, z]⟩)
    have nF : a ∉ X.fs := fun hm => by
      obtain ⟨e, he, q⟩ := List.mem_filterMap.mp hm
      exact nfr (List.mem_filterMap.mpr ⟨e, List.mem_cons_of_mem _ he, q⟩)
    -- the error's object is new since the def's entry
    have nI : sI.heap.get? a = none := by
      cases q : sI.heap.get? a with
      | none => rfl
      | some o =>
        have z := nb a o q (by show a ∉ frs X.stack; rw [hs]; exact nfr)
        rw [fl.2.1] at z
        cases z
    have n0 : X.s_0.heap.get? a = none := by
      cases q : X.s_0.heap.get? a with
      | none => rfl
      | some o =>
        obtain ⟨o', z⟩ := J.base.there a o q (by rw [hex]; exact fun z => nomatch z)
        cases nI.symm.trans z
    have nP : ∀ p ∈ X.pn ++ pins, p.1 ≠ a := fun p hp z => by
      have e := (J.pin p hp).1
      rw [z, nI] at e
      cases e
    have S3 := J3.suite he hd na nL nF
    refine wpAny_handleBy_cons (codeAny_handlers_test ?_) (by intro q; cases q)
    have LT : PySem.W.Looks (model X.prog X.w) h3 (typeOf (.ref a)) cls := fun A Q E s k q => wpAny_typeOf_ref (k _ _ he) (by rw [hz.1]; exact q)
    have LM := PySem.W.exm_one (M := model X.prog X.w) J3.kIn LT hb1
    have test : ∀ {Q : Value → Shared → Prop} {E : Value → Shared → Prop}, Q c { s' with heap := h3 } → wpAny (model X.prog X.w) (X.A.mark (some (.ref a))) (eval (.Name x np) X.env) Q E { s' with heap := h3 } := fun {Q E} q => by
      obtain ⟨hg, hdbg, hm | ⟨hm, hv, hnn⟩⟩ := hc
      · exact ld_glob (X := X.suite a ((a, oe) :: (X.pn ++ pins))) S3 hg hm q hdbg
      · exact ld_blt (X := X.suite a ((a, oe) :: (X.pn ++ pins))) S3 hg hm hv q hnn hdbg
    refine test (LM.here ?_)
    cases b with
    | false =>
      -- it goes on
      refine wpAny_handleBy_nil ?_
      obtain ⟨_, _, _, o1, w1, T, _, _, e1, _, d1, t1, _⟩ := id fl
      unfold PySem.passOn
      refine wpAny_bind (wpAny_field e1 d1 t1 ?_)
      rw [if_neg (show ¬ ((Value.ref T == Value.none) = true) from by simp)]
      have fin : wpAny (model X.prog X.w) X.A (setFlight (.ref a) X.env.frame) (fun _ s4 => wpAny (model X.prog X.w) X.A (throw (.ref a) : Sem Flow) (SP X pins D) X.xe s4) X.xe { s' with heap := h3 } := by
        rw [hf]
        exact HandSPX.setFlight_upZ fl fun h4 hh up4 => wpAny_throw (tk _ _ ⟨a, B, sI, pins, σ', H', cls, d, rfl, J, nb, (up.trans up3).trans up4, .inr (.inr (by rw [hs]; exact hh)), na, os, ag, hno rfl⟩)
      first
        | exact wpAny_bind (wpAny_pure (wpAny_bind fin))
        | exact wpAny_bind fin
    | true =>
      -- it is held in the suite, and tracked behind it
      refine codeAny_handlers_suite_as (HandSPX.lands_againZ fl fun h4 fl4 up4 => ?_)
      have J4 : Inv X pins σ' H' { s' with heap := h4 } := J.landed nb fl4.1 ((up.trans up3).trans up4) os ag
      obtain ⟨o4, v4, e4, z4, d4⟩ := fl4.there
      refine store_ok (X := X.suite a ((a, o4) :: (X.pn ++ pins))) (v := .ref a) (J4.suite e4 d4 na nL nF) hN hi (.inl hln) rfl (fun s5 S5 => ?_) (.inr hln)
      refine wpAny_mono ((hsu a o4 cls d (X.pn ++ pins) z4 ⟨_, d4⟩).run [] s5 _ H' _ S5 (hyes rfl a na)) (fun f s6 hsp => ?_) (fun _ _ z => False.elim z)
      have done : ∀ {σ6 : L2.St} {H6 : Hp} {Q : Shared → Prop}, Inv (X.suite a ((a, o4) :: (X.pn ++ pins))) [] σ6 H6 s6 → (∀ s7, Inv X pins (σ6.set i none) H6 s7 → Inv X pins (σ6.set i none) (upd H6 a (ExK cls d a)) s7 → Q s7) →
          wpAny (model X.prog X.w) X.A (do bindName X.env n .none; unbindBehindTheSuite X.env n pos') (fun _ s7 => Q s7) X.xe s6 := fun {σ6 H6 Q} S6 hq =>
        gone_ok (X := X.suite a ((a, o4) :: (X.pn ++ pins))) S6 hN hi hln fun s7 S7 => by
          obtain ⟨e7, n7, _⟩ := S7.pin (a, o4) (List.mem_append_left _ List.mem_cons_self)
          have J7 : Inv X pins (σ6.set i none) H6 s7 := S7.unsuite ok
          exact hq s7 J7 (track J7 e7 z4 d4 n7 n0 nL nP)
      cases f with
      | next =>
        obtain ⟨σ6, H6, S6, q6⟩ := hsp
        exact done S6 fun s7 _ J7 => ⟨_, _, J7, q6⟩
      | brk =>
        obtain ⟨σ6, H6, S6, q6⟩ := hsp
        exact done S6 fun s7 _ J7 => ⟨_, _, J7, q6⟩
      | cont =>
        obtain ⟨σ6, H6, S6, q6⟩ := hsp
        exact done S6 fun s7 _ J7 => ⟨_, _, J7, q6⟩
      | ret u =>
        obtain ⟨v6, σ6, H6, S6, r6, q6⟩ := hsp
        exact done S6 fun s7 J7 _ => ⟨_, _, _, J7, r6, q6⟩
  · cases f with
    | next =>
      obtain ⟨σ', H', J', q⟩ := q
      exact wpAny_execs_nil ⟨σ', H', J'.ofTry I.ok, q⟩
    | brk =>
      obtain ⟨σ', H', J', q⟩ := q
      exact ⟨σ', H', J'.ofTry I.ok, q⟩
    | cont =>
      obtain ⟨σ', H', J', q⟩ := q
      exact ⟨σ', H', J'.ofTry I.ok, q⟩
    | ret u =>
      obtain ⟨v, σ', H', J', r, q⟩ := q
      exact ⟨v, σ', H', J'.ofTry I.ok, r, q⟩
end
/-- isinstance of a kept error -/
def rIsK (K : PySem.W.Frag) : List V → Hp → VK → Prop := fun xs H Q => ∃ (a D : Addr) (c : V) (cv : Value) (b : Bool), xs = [.ref a, c] ∧ H a = some (ExK (.ref D) none a) ∧ ExcC K D ∧ (∀ u, RelV c u → u = cv) ∧ PySem.W.kitOne K (.ref D) cv = some b ∧ Q (.bl b) H
theorem call_isK {X : Cx} : CallR X (.builtin "isinstance") (rIsK X.K) := by
  intro pins s σ H xs us Q I r h
  obtain ⟨a, D, c, cv, b, rfl, ha, C, hcv, e, q⟩ := h
  obtain ⟨u1, u2, rfl, r1, r2⟩ := vals2 r
  cases (show u1 = Value.ref a from r1)
  cases hcv _ r2
  obtain ⟨⟨oe, vs, ho, hz, hd⟩, _⟩ := I.hok a _ ha
  obtain ⟨oc, od, oda, osl⟩ := oe
  obtain ⟨h1, h2⟩ := hz
  dsimp only at h1 h2 hd
  subst h1 h2 hd
  exact PySem.W.kia_one (PySem.W.handS_kitx_exc C.hg C.hk C.hs C.hd C.ha C.hn C.ht C.hm) I.kIn ⟨ho, rfl, rfl, trivial⟩ e (fun z => nomatch z) fun tk => ⟨.bl b, H, I.kept (t' := tk) fun _ _ z => z, rfl, q⟩
/-! ### defs that raise, by their names -/
structure DnS (P : Program) (w : World) (K : PySem.W.Frag) (mg : Str → Option Value) (base : Heap) (k : Nat) (x : Str) (ps : List Str) (sp : Sp) : Prop where
  ex : ∃ (f : Addr) (fd : FuncData), mg x = some (.ref f) ∧ PySem.W.keepIn K (.ref f) = true ∧ Binds K fd ps [] ∧ FnOk P w K mg base (L2.CX P w) k f fd ps sp
section
variable {X : Cx} {k : Nat} {x : Str} {ps : List Str} {sp : Sp} {p pos : Pos} {e : Expr} {es : List Expr} {t : TA}
theorem pe_dnS {E : L2.St → XK} (D : DnS X.prog X.w X.K X.mg X.base k x ps sp) (hr : Room k X.A) (hg : Gl X x) (hx : ∀ σ, PassesAt (L2.CX X.prog X.w) X σ (E σ)) (ha : PA X (e :: es) t) (hdb : (x == ("__debug__" : Str)) = false := by decide)
    (he : starEach (e :: es) X.env = (false, eval e X.env) :: starEach es X.env := by rfl) (hpl : (backTo pos (starEach es X.env)).any (·.1) = false := by rfl) :
    PE X (.Call (.Name x p) (e :: es) [] pos) (tCallS sp E t) := by
  obtain ⟨f, fd, hm, hk, hb, F⟩ := D.ex
  exact pe_callS F hr hg hm hk hb hx ha hdb he hpl
end
section
variable {P : Program} {w : World} {K : PySem.W.Frag} {mg : Str → Option Value} {base : Heap} {x qual : Str} {params : Arguments} {body : List Stmt} {scope : Scope} {dvs : List V} {kws : List (Str × V)} {N ps : List Str} {k : Nat} {sp : Sp}
/-- a def that may raise -/
theorem okS {f : Addr} {fd : FuncData} (F : FunD K x qual params body scope dvs kws f fd) (S : FnScope N ps scope) (len : ∀ vs H Q E, sp vs H Q E → vs.length = ps.length)
    (hbody : ∀ (c : Value) (A : Around) (outer : List Env) (s : Shared) (H : Hp) (vs : List V) (Q : VK) (E : XK), Room k (A.deeper (envOfC qual scope s.heap.objs.size f c)) → sp vs H Q E →
      ∃ t, PSs (cxOf (L2.CX P w) P w K mg base N qual scope f c A outer s H E) body t ∧ t { nx := fun _ H' => Q .non H', rt := Q } (start N vs) H) : FnOk P w K mg base (L2.CX P w) (k + 1) f fd ps sp := by
  obtain ⟨oc, od, dV, kV, doc, pm, an, cdv, ct, osl, rfl, lk, hcd, _, _⟩ := F.ex
  exact fn_of lk hcd S len fun A outer s H vs Q E hr hsp => hbody _ A outer s H vs Q E hr hsp
end
/-! ### xs.count(y), flat items -/
theorem count_vals {y : V} : ∀ {ys : List V} {us : List Value}, Vals ys us → ys.all flatV = true → us.countP (eqU y) = ys.countP fun z => eqV z y
  | [], _, .nil, _ => rfl
  | z :: r, _, .cons h t, f => by
    rw [List.all_cons, Bool.and_eq_true] at f
    rw [List.countP_cons, List.countP_cons, count_vals t f.2, eqU_of h f.1]
def rCntV (K : PySem.W.Frag) : V → List V → Hp → VK → Prop := fun x xs H Q => ∃ (a : Addr) (ys : List V) (y : V), x = .ref a ∧ xs = [y] ∧ SqL K H a ys ∧ flatV y = true ∧ ys.all flatV = true ∧ Q (.int (ys.countP fun z => eqV z y : Nat)) H
theorem mt_lcountV {X : Cx} : MtR X "list.count" (rCntV X.K) := by
  intro pins s σ H x xs v us Q I rx rxs h
  obtain ⟨a, ys, y, rfl, rfl, hs, fy, fys, q⟩ := h
  cases (show v = Value.ref a from rx)
  obtain ⟨u, rfl, ru⟩ := rxs.one
  obtain ⟨its, rv, ⟨⟨cls, dd, data, sl⟩, n, ho, hc, hdn, hd⟩, hlen⟩ := I.list hs
  simp only at hc hd
  subst hc hd
  refine call_meets PySem.F.slot_list_count ⟨_, ho, rfl⟩ PySem.F.entry_list_count (PySem.F.args_list_count_2 _ _)
    (SeqAt.list_countAt a its.toArray n dd sl u (eqU y)) ⟨ho, fun u' hu' => mem_eqAt ru fy rv fys u' (by simpa using hu'), ?_⟩
  have ec : its.toArray.toList.countP (eqU y) = ys.countP fun z => eqV z y := by
    rw [List.toList_toArray]
    exact count_vals rv fys
  refine ⟨.int (ys.countP fun z => eqV z y : Nat), H, I.tok _, ⟨s.toks, ?_⟩, q⟩
  show Value.int ((its.toArray.toList.countP (eqU y) : Nat) : Int) s.toks = _
  rw [ec]
/-! ### facts of an error's class -/
/-- what the head tells of the class at C -/
def excB (K : PySem.W.Frag) (C : Addr) : Bool := PySem.W.excIn K C He.veBase "ValueError.__new__" && (PySem.W.keepIn K (.ref C) && (decide (PySem.W.subIn K (.ref C) (.type "BaseException") = some true) && (decide (PySem.W.typeIn K (.ref C) = some (.type "type")) &&
  (decide (PySem.W.findIn K (.ref C) "__getattribute__" = some (some (.builtin "BaseException.__getattribute__"))) && (decide (PySem.W.findIn K (.ref C) "__getattr__" = some none) && (PySem.W.hasDictIn K C && (decide (PySem.W.findIn K (.ref C) "__class__" = some (some (.builtin "object.__class__"))) &&
  (decide (PySem.W.specialIn K (.builtin "object.__class__") "__get__" = some (some (.builtin "getset_descriptor.__get__"))) && (decide (PySem.W.takesIn K (.builtin "object.__class__") = some true) && decide (PySem.W.mroIn K C (.type "object") = some true))))))))))
structure ExF (K : PySem.W.Frag) (C : Addr) : Prop where
  x : PySem.W.excIn K C He.veBase "ValueError.__new__" = true
  k : PySem.W.keepIn K (.ref C) = true
  b : PySem.W.subIn K (.ref C) (.type "BaseException") = some true
  t : PySem.W.typeIn K (.ref C) = some (.type "type")
  c : ExcC K C
theorem excB_ok {K : PySem.W.Frag} {C : Addr} (h : excB K C = true) : ExF K C := by
  unfold excB at h
  simp only [Bool.and_eq_true, decide_eq_true_eq] at h
  obtain ⟨h1, h2, h3, h4, h5, h6, h7, h8, h9, h10, h11⟩ := h
  exact ⟨h1, h2, h3, h4, ⟨h5, h6, h3, h7, h8, h9, h10, h11⟩⟩
/-- of an error of the class at C: which of the classes named it is -/
def kitB (K : PySem.W.Frag) (C : Addr) (one : Str) (xs : List Str) : Bool := xs.all fun x => decide (PySem.W.kitOne K (.ref C) (.ref (He.ga K x)) = some (decide (x = one)))
theorem kitB_ok {K : PySem.W.Frag} {C : Addr} {one : Str} {xs : List Str} (h : kitB K C one xs = true) {x : Str} (hx : x ∈ xs) : PySem.W.kitOne K (.ref C) (.ref (He.ga K x)) = some (decide (x = one)) := of_decide_eq_true (List.all_eq_true.mp h x hx)
/-! ### new objects, their heaps not spelt out -/
theorem lst_any {H : Hp} {xs : List V} {Q : VK} (hz : xs.length ≤ sizeLine) (q : ∀ p H', H' p = some (.lst xs) → Same H H' → H p = none → Q (.ref p) H') : xs.length ≤ sizeLine ∧ ∀ p, H p = none → Q (.ref p) (upd H p (.lst xs)) :=
  ⟨hz, fun p hp => q p _ upd_same (same_new hp) hp⟩
theorem tup_any {H : Hp} {xs : List V} {Q : VK} (hz : xs.length ≤ sizeLine) (q : ∀ p H', H' p = some (.tup xs) → Same H H' → H p = none → Q (.ref p) H') : xs.length ≤ sizeLine ∧ ∀ p, H p = none → Q (.ref p) (upd H p (.tup xs)) :=
  ⟨hz, fun p hp => q p _ upd_same (same_new hp) hp⟩
theorem catL_any {H : Hp} {l b : Addr} {xs ys : List V} {Q : VK} (hl : H l = some (.lst xs)) (hb : H b = some (.lst ys)) (hz : xs.length + ys.length ≤ sizeLine) (q : ∀ p H', H' p = some (.lst (xs ++ ys)) → Same H H' → H p = none → Q (.ref p) H') : rCat (.ref l) (.ref b) H Q :=
  ⟨l, b, xs, ys, rfl, rfl, hl, hb, hz, fun p hp => q p _ upd_same (same_new hp) hp⟩
end Gc

set_option Elab.async false
set_option linter.all false
set_option maxRecDepth 100000
set_option maxHeartbeats 2000000
namespace K2
open PySem PySem.Spec PyProof.Rows L2 GxR Gx Gc
def top (i : Nat) : Stmt := PySem.Challenge.pw_mastershow_k02_worths_of_traits.main.body.getD i (.Pass ⟨0, 0, 0, 0⟩)
abbrev FnP (K : PySem.W.Frag) (x : Str) (st : Stmt) (f : Addr) (fd : FuncData) : Prop := FunD K x x (defArgs st) (defBody st) (defScope st) [] [] f fd
def CLS : List Str := ["NoDeck", "NoDeed", "NoLink", "NoMaster", "NoName", "NoNumber", "NoPlace", "NoPress", "NoRoom", "NoRow", "NoSetting", "NoShow", "NoSlide", "NoSteps", "NoText", "NoTime", "NoTrait", "NoWord", "NoWorth", "Ring", "Taken", "TooMany", "Used"]
structure Txt0 (mg : Str → Option Value) : Prop where
  m_len : mg "len" = none
  m_all : mg "all" = none
  m_bool : mg "bool" = none
  m_isinstance : mg "isinstance" = none
  m_list : mg "list" = none
  m_range : mg "range" = none
  m_str : mg "str" = none
  m_int : mg "int" = none
  m_tuple : mg "tuple" = none
  m_ValueError : mg "ValueError" = none
structure Txt (K : PySem.W.Frag) (mg : Str → Option Value) : Prop extends Txt0 mg where
  cls : ∀ x, CLS.contains x = true → mg x = some (.ref (He.ga K x))
structure NT (K : PySem.W.Frag) (mg : Str → Option Value) : Prop extends ExF K (He.ga K "NoTrait") where
  d : mg "DeckError" = some (.ref (He.ga K "DeckError"))
  e : PySem.W.exmOne K (.ref (He.ga K "NoTrait")) (.ref (He.ga K "DeckError")) = some true
  kit : kitB K (He.ga K "NoTrait") "NoTrait" CLS = true
  kv : PySem.W.kitOne K (.ref (He.ga K "NoTrait")) (.type "ValueError") = some true
abbrev sis_one_of : Stmt := top 28
theorem scis_one_of : FnScope ["thing", "words"] ["thing", "words"] (defScope sis_one_of) := ⟨rfl, rfl, rfl, by decide +kernel, rfl, by decide +kernel, by decide +kernel⟩
abbrev sis_whole_within : Stmt := top 27
theorem scis_whole_within : FnScope ["thing", "low", "high"] ["thing", "low", "high"] (defScope sis_whole_within) := ⟨rfl, rfl, rfl, by decide +kernel, rfl, by decide +kernel, by decide +kernel⟩
abbrev sis_name : Stmt := top 35
theorem scis_name : FnScope ["thing"] ["thing"] (defScope sis_name) := ⟨rfl, rfl, rfl, by decide +kernel, rfl, by decide +kernel, by decide +kernel⟩
abbrev sis_trait : Stmt := top 36
theorem scis_trait : FnScope ["thing"] ["thing"] (defScope sis_trait) := ⟨rfl, rfl, rfl, by decide +kernel, rfl, by decide +kernel, by decide +kernel⟩
abbrev sis_whole : Stmt := top 26
theorem scis_whole : FnScope ["thing"] ["thing"] (defScope sis_whole) := ⟨rfl, rfl, rfl, by decide +kernel, rfl, by decide +kernel, by decide +kernel⟩
abbrev sis_worth : Stmt := top 37
theorem scis_worth : FnScope ["trait", "thing", "low", "high"] ["trait", "thing"] (defScope sis_worth) := ⟨rfl, rfl, rfl, by decide +kernel, rfl, by decide +kernel, by decide +kernel⟩
abbrev slaw_pen : Stmt := top 39
theorem sclaw_pen : FnScope ["script"] ["script"] (defScope slaw_pen) := ⟨rfl, rfl, rfl, by decide +kernel, rfl, by decide +kernel, by decide +kernel⟩
abbrev slaw_draw : Stmt := top 40
theorem sclaw_draw : FnScope ["pen", "many", "found", "at", "cell", "number"] ["pen", "many"] (defScope slaw_draw) := ⟨rfl, rfl, rfl, by decide +kernel, rfl, by decide +kernel, by decide +kernel⟩
abbrev slaw_word : Stmt := top 41
theorem sclaw_word : FnScope ["e", "words", "some"] ["e"] (defScope slaw_word) := ⟨rfl, rfl, rfl, by decide +kernel, rfl, by decide +kernel, by decide +kernel⟩
abbrev slaw_is : Stmt := top 42
theorem sclaw_is : FnScope ["trait", "thing", "least", "most", "sign"] ["trait", "thing"] (defScope slaw_is) := ⟨rfl, rfl, rfl, by decide +kernel, rfl, by decide +kernel, by decide +kernel⟩
abbrev slaw_thing : Stmt := top 43
theorem sclaw_thing : FnScope ["pen", "some", "number"] ["pen"] (defScope slaw_thing) := ⟨rfl, rfl, rfl, by decide +kernel, rfl, by decide +kernel, by decide +kernel⟩
abbrev slaw_refused : Stmt := top 44
theorem sclaw_refused : FnScope ["trait", "thing", "kept", "e"] ["trait", "thing"] (defScope slaw_refused) := ⟨rfl, rfl, rfl, by decide +kernel, rfl, by decide +kernel, by decide +kernel⟩
abbrev slaw : Stmt := top 45
theorem sclaw : FnScope ["script", "pen", "traits", "k", "trait", "thing", "found", "odd"] ["script"] (defScope slaw) := ⟨rfl, rfl, rfl, by decide +kernel, rfl, by decide +kernel, by decide +kernel⟩
section
variable {P : Program} {w : World} {K : PySem.W.Frag} {mg : Str → Option Value} {base : Heap}
theorem ok_draw {f : Addr} {fd : FuncData} (F : FnP K "_law_draw" slaw_draw f fd) (T : Txt K mg) : FnOk P w K mg base CX0 1 f fd ["pen", "many"] spDraw := by
  refine okN F sclaw_draw (fun vs H Q E h => ?_) (fun cdv A outer s H vs Q E hr h => ?_)
  · obtain ⟨p, L, ns, n, many, rfl, _⟩ := h
    rfl
  · obtain ⟨p, L, ns, n, many, rfl, hP, h0, hm, hn, k⟩ := h
    refine ⟨_, (pss_cons (ps_if (pt_cmpR op_gt (pe_ix ix_list (pv 0) pe_int (fun _ _ => rfl)) pe_int (nomark _)) (pss_cons (ps_set (i := 2) sclaw_draw.nd rfl (Or.inl rfl) (pe_op op_mod (pe_ix ix_list (pv 0) pe_int (fun _ _ => rfl)) (pv 1)))
      (pss_cons (ps_asg (pe_op op_fdiv (pe_ix ix_list (pv 0) pe_int (fun _ _ => rfl)) (pv 1)) (pg_sub (pv 0) pe_int set_list))
      (pss_one (ps_ret (pv 2))))) pss_nil)
      (pss_cons (ps_set (i := 3) sclaw_draw.nd rfl (Or.inl rfl) (pe_ix ix_list (pv 0) pe_int (fun _ _ => rfl)))
      (pss_cons (ps_asg (pe_op op_add (pv 3) pe_int) (pg_sub (pv 0) pe_int set_list))
      (pss_cons (ps_set (i := 4) sclaw_draw.nd rfl (Or.inl rfl) pe_int)
      (pss_cons (ps_if (pt_cmpR op_gt (pe_callB call_len_seq (by rfl) T.m_len (by decide +kernel) (pa_cons (pe_ix ix_list (pv 0) pe_int (fun _ _ => rfl)) pa_nil)) pe_int (nomark _)) (pss_one (ps_set (i := 4) sclaw_draw.nd rfl (Or.inl rfl) (pe_ix ix_list (pe_ix ix_list (pv 0) pe_int (fun _ _ => rfl)) (pe_op op_mod (pv 3) (pe_callB call_len_seq (by rfl) T.m_len (by decide +kernel) (pa_cons (pe_ix ix_list (pv 0) pe_int (fun _ _ => rfl)) pa_nil))) (fun _ _ => rfl)))) pss_nil)
      (pss_cons (ps_if (PW.pt (pw_and (pt_cmpR op_lt (pv 3) (pe_callB call_len_seq (by rfl) T.m_len (by decide +kernel) (pa_cons (pe_ix ix_list (pv 0) pe_int (fun _ _ => rfl)) pa_nil)) (nomark _)) (pw_and1 (pt_cmpR op_ge (pv 4) (pe_op op_pow pe_int pe_int) (nomark _))))) (pss_cons (ps_asg (pe_op op_fdiv (pv 4) (pv 1)) (pg_sub (pv 0) pe_int set_list))
      (pss_one (ps_ret (pe_op op_mod (pv 4) (pv 1))))) pss_nil)
      (pss_cons (ps_set (i := 5) sclaw_draw.nd rfl (Or.inl rfl) (pe_op op_mod (pe_op op_mul (pe_op op_add (pe_op op_mod (pv 4) pe_int) pe_int) (pe_op op_add (pe_op op_add (pe_op op_mul (pv 3) (pv 3)) (pe_op op_mul pe_int (pv 3))) pe_int)) pe_int))
      (pss_one (ps_ret (pe_op op_mod (pe_op op_fdiv (pe_op op_mod (pe_op op_mul (pe_op op_mod (pe_op op_add (pe_op op_pow (pv 5) pe_int) (pe_op op_mul pe_int (pv 3))) pe_int) pe_int) pe_int) pe_int) (pv 1))))))))))), ?_⟩
    obtain ⟨a, r, hp, ha, han⟩ := hP.at_
    refine ⟨_, rfl, p, _, _, _, rfl, rfl, SqL.of hp, at_of (j := 2) rfl rfl, _, _, rfl, rfl, _, rfl, ite2 (fun hc => ?_) fun hc => ?_⟩
    · refine ⟨_, rfl, p, _, _, _, rfl, rfl, SqL.of hp, at_of (j := 2) rfl rfl, _, rfl, _, _, rfl, rfl, h0, ?_⟩
      refine ⟨_, rfl, p, _, _, _, rfl, rfl, SqL.of hp, at_of (j := 2) rfl rfl, _, rfl, _, _, rfl, rfl, ⟨h0, (by omega)⟩, _, rfl, p, _, _, 2, rfl, rfl, hp, rfl, ?_⟩
      refine ⟨_, rfl, k _ _ (Int.emod_nonneg _ (by omega)) (Int.emod_lt_of_pos _ h0) (hP.put ha (by omega)) But.upd⟩
    · -- at = pen[1]; pen[1] = at + 1; cell = 7
      refine ⟨_, rfl, p, _, _, _, rfl, rfl, SqL.of hp, at_of (j := 1) rfl rfl, ?_⟩
      refine ⟨_, rfl, _, _, rfl, rfl, _, rfl, p, _, _, 1, rfl, rfl, hp, rfl, ?_⟩
      have hP1 : Pen (upd H p (.lst [.ref L, .int (a + 1), .int r])) p L ns (n + 1) := hP.put (by omega) (by omega)
      have b1 : But p H (upd H p (.lst [.ref L, .int (a + 1), .int r])) := But.upd
      generalize eH : upd H p (.lst [.ref L, .int (a + 1), .int r]) = H1 at hP1 b1
      have hp1 : H1 p = some (.lst [.ref L, .int (a + 1), .int r]) := by rw [← eH]; exact upd_same
      have hl1 := hP1.ls
      show tSeq _ _ _ _ (upd H p (.lst [.ref L, .int (a + 1), .int r]))
      rw [eH]
      have eL : (ns.map V.int).length = ns.length := List.length_map ..
      apply viaInt
      · intro rest
        -- if len(pen[0]) > 0: cell = pen[0][at % len(pen[0])]
        refine ⟨_, rfl, p, _, _, _, rfl, rfl, SqL.of hp1, at_of (j := 0) rfl rfl, L, _, rfl, .inl (SqL.of hl1), _, _, rfl, rfl, _, rfl, ite2 (fun hc => ?_) fun hc => ?_⟩
        · have hpos : 0 < ns.length := by
            have h1 := of_decide_eq_true hc
            rw [eL] at h1
            omega
          have hlp : (0 : Int) < ((ns.length : Nat) : Int) := by omega
          have hm0 := Int.emod_nonneg a (show ((ns.length : Nat) : Int) ≠ 0 by omega)
          have hm1 := Int.emod_lt_of_pos a hlp
          obtain ⟨j, ej⟩ : ∃ j : Nat, a % ((ns.length : Nat) : Int) = (j : Int) := ⟨_, (Int.toNat_of_nonneg hm0).symm⟩
          have hj : j < ns.length := by
            rw [ej] at hm1
            omega
          refine ⟨_, rfl, p, _, _, _, rfl, rfl, SqL.of hp1, at_of (j := 0) rfl rfl, _, rfl, _, rfl, p, _, _, _, rfl, rfl, SqL.of hp1, at_of (j := 0) rfl rfl, L, _, rfl, .inl (SqL.of hl1), _, _, rfl, rfl, (by rw [eL]; exact hlp), ?_⟩
          obtain ⟨cell, ec⟩ : ∃ z, ns[j]? = some z := ⟨_, List.getElem?_eq_getElem hj⟩
          refine ⟨L, _, _, .int cell, rfl, rfl, SqL.of hl1, at_of (j := j) (by rw [eL]; exact ej) (by rw [List.getElem?_map, ec]; rfl), ?_⟩
          exact rest cell
        · exact rest 7
      · intro cell
        -- if at < len(pen[0]) and cell >= 10 ** 18
        refine ⟨_, rfl, _, rfl, p, _, _, _, rfl, rfl, SqL.of hp1, at_of (j := 0) rfl rfl, L, _, rfl, .inl (SqL.of hl1), _, _, rfl, rfl, _, rfl, ?_⟩
        have c1 : (0 : Int) ≤ cell % 2147483629 := Int.emod_nonneg _ (by decide)
        have c2 : cell % 2147483629 < 2147483629 := Int.emod_lt_of_pos _ (by decide)
        · refine ite2 (fun _ => ?_) fun _ => ?_
          · refine ⟨_, rfl, _, _, rfl, rfl, ⟨by decide, by decide, by decide⟩, _, _, rfl, rfl, _, rfl, ite2 (fun _ => ?_) fun _ => ?_⟩
            · refine ⟨_, rfl, _, rfl, _, _, rfl, rfl, ⟨h0, (by omega)⟩, _, rfl, p, _, _, 2, rfl, rfl, hp1, rfl, ?_⟩
              refine ⟨_, rfl, _, rfl, _, _, rfl, rfl, h0, ?_⟩
              exact k _ _ (Int.emod_nonneg _ (by omega)) (Int.emod_lt_of_pos _ h0) (hP1.put (by omega) (by omega)) (b1.trans But.upd)
            · refine ⟨_, rfl, _, _, rfl, rfl, (by show (0 : Int) < _; decide), _, _, rfl, rfl, _, rfl, _, rfl, _, _, rfl, rfl, .inl ⟨by omega, by omega⟩, _, rfl, _, _, rfl, rfl, .inl ⟨by decide, by decide⟩, _, _, rfl, rfl, _, _, rfl, rfl, _, _, rfl, rfl, .inl ⟨by omega, by omega⟩, _, _, rfl, rfl, (by show (0 : Int) < _; decide), ?_⟩
              generalize eN : (cell % 2147483629 + 11) * (a * a + 5 * a + 3) % 2147483647 = N
              have n1 : (0 : Int) ≤ N := by rw [← eN]; exact Int.emod_nonneg _ (by decide)
              have n2 : N < 2147483647 := by rw [← eN]; exact Int.emod_lt_of_pos _ (by decide)
              refine ⟨_, rfl, _, _, rfl, rfl, ⟨by decide, by decide, by omega⟩, _, rfl, _, _, rfl, rfl, .inl ⟨by decide, by decide⟩, _, _, rfl, rfl, _, _, rfl, rfl, (by show (0 : Int) < _; decide), ?_⟩
              generalize eM : (N ^ (3 : Int).toNat + 69621 * a) % 2147483587 = M
              have m1 : (0 : Int) ≤ M := by rw [← eM]; exact Int.emod_nonneg _ (by decide)
              have m2 : M < 2147483587 := by rw [← eM]; exact Int.emod_lt_of_pos _ (by decide)
              refine ⟨_, _, rfl, rfl, .inl ⟨by omega, by omega⟩, _, _, rfl, rfl, (by show (0 : Int) < _; decide), _, _, rfl, rfl, ⟨by decide, by decide⟩, _, rfl, _, _, rfl, rfl, h0, ?_⟩
              exact k _ _ (Int.emod_nonneg _ (by omega)) (Int.emod_lt_of_pos _ h0) hP1 b1
          · refine iteF ?_
            refine ⟨_, rfl, _, _, rfl, rfl, (by show (0 : Int) < _; decide), _, _, rfl, rfl, _, rfl, _, rfl, _, _, rfl, rfl, .inl ⟨by omega, by omega⟩, _, rfl, _, _, rfl, rfl, .inl ⟨by decide, by decide⟩, _, _, rfl, rfl, _, _, rfl, rfl, _, _, rfl, rfl, .inl ⟨by omega, by omega⟩, _, _, rfl, rfl, (by show (0 : Int) < _; decide), ?_⟩
            generalize eN : (cell % 2147483629 + 11) * (a * a + 5 * a + 3) % 2147483647 = N
            have n1 : (0 : Int) ≤ N := by rw [← eN]; exact Int.emod_nonneg _ (by decide)
            have n2 : N < 2147483647 := by rw [← eN]; exact Int.emod_lt_of_pos _ (by decide)
            refine ⟨_, rfl, _, _, rfl, rfl, ⟨by decide, by decide, by omega⟩, _, rfl, _, _, rfl, rfl, .inl ⟨by decide, by decide⟩, _, _, rfl, rfl, _, _, rfl, rfl, (by show (0 : Int) < _; decide), ?_⟩
            generalize eM : (N ^ (3 : Int).toNat + 69621 * a) % 2147483587 = M
            have m1 : (0 : Int) ≤ M := by rw [← eM]; exact Int.emod_nonneg _ (by decide)
            have m2 : M < 2147483587 := by rw [← eM]; exact Int.emod_lt_of_pos _ (by decide)
            refine ⟨_, _, rfl, rfl, .inl ⟨by omega, by omega⟩, _, _, rfl, rfl, (by show (0 : Int) < _; decide), _, _, rfl, rfl, ⟨by decide, by decide⟩, _, rfl, _, _, rfl, rfl, h0, ?_⟩
            exact k _ _ (Int.emod_nonneg _ (by omega)) (Int.emod_lt_of_pos _ h0) hP1 b1

/-! ### the pen is made -/
def spPen (K : PySem.W.Frag) : Sp := fun vs H Q _ => ∃ (a : Addr) (ns : List Int), vs = [.ref a] ∧ SqL K H a (ns.map V.int) ∧ ns.length ≤ 63 ∧ ∀ (p L : Addr) (H' : Hp), H p = none → H L = none → Pen H' p L ns 0 → Same H H' → Q (.ref p) H'
theorem ok_pen {f : Addr} {fd : FuncData} (F : FnP K "_law_pen" slaw_pen f fd) (T : Txt K mg) : FnOk P w K mg base CX0 1 f fd ["script"] (spPen K) := by
  refine okN F sclaw_pen (fun vs H Q E h => ?_) (fun cdv A outer s H vs Q E hr h => ?_)
  · obtain ⟨a, ns, rfl, _⟩ := h
    rfl
  · obtain ⟨a, ns, rfl, hS, hl, q⟩ := h
    refine ⟨_, (pss_one (ps_ret (pe_lst (pa_cons (pe_callTy call_list_of (by rfl) T.m_list (by decide +kernel) (pa_cons (pe_slice sl_list (pv 0) po_none (po_some pe_int)) pa_nil)) (pa_cons pe_int (pa_cons pe_int pa_nil)))))), ?_⟩
    refine ⟨.ref a, rfl, 63, rfl, a, ns.map V.int, rfl, hS, fun c hc => ?_⟩
    have ec : cutV (ns.map V.int) none (some 63) = ns.map V.int := cut63 (by rw [List.length_map]; exact hl)
    rw [ec]
    refine ⟨c, _, rfl, .inl (SqL.of upd_same), fun L hL => ?_⟩
    refine ⟨(by show 3 ≤ sizeLine; decide), fun p hp => ?_⟩
    have s1 : Same H (upd H c (.lst (ns.map V.int))) := fun b o e => by rw [upd_ne (ne_of_none e hc)]; exact e
    have s2 : Same (upd H c (.lst (ns.map V.int))) (upd (upd H c (.lst (ns.map V.int))) L (.lst (ns.map V.int))) := fun b o e => by rw [upd_ne (ne_of_none e hL)]; exact e
    have s3 : Same (upd (upd H c (.lst (ns.map V.int))) L (.lst (ns.map V.int))) (upd (upd (upd H c (.lst (ns.map V.int))) L (.lst (ns.map V.int))) p (.lst [.ref L, .int 0, .int 0])) := fun b o e => by rw [upd_ne (ne_of_none e hp)]; exact e
    have hLp : L ≠ p := ne_of_none upd_same hp
    exact q p L _ ((s1.trans s2).free hp) (s1.free hL) ⟨⟨0, 0, upd_same, Int.le_refl _, Int.le_refl _⟩, by rw [upd_ne hLp]; exact upd_same, hl⟩ ((s1.trans s2).trans s3)

/-! ### is_name -/
def spName (P' : Addr) : Sp := fun vs H Q _ => ∃ v, vs = [v] ∧ Th H v ∧ (∀ z, v = .str z → z.length ≤ sizeLine) ∧ TabG H P' ∧ ∀ H2, Tabbed P' H H2 → Q (.bl (nameV v)) H2
theorem ok_name {fd : FuncData} {P' : Addr} (F : FnP K "is_name" sis_name (He.fAd K ("is_name", none)) fd) (T : Txt K mg) (B : TabB base mg (He.codeOf K ("is_name", none)) P') {t1 t2 t3 : Tok}
    (g1 : mg "LETTERS" = some (.str LETS t1)) (g2 : mg "FIGURES" = some (.str FIGS t2)) (g3 : mg "LONGEST_NAME" = some (.int 8 t3)) :
    FnOk P w K mg base CX0 1 (He.fAd K ("is_name", none)) fd ["thing"] (spName P') := by
  refine okCN F scis_name (fun vs H Q E h => ?_) (fun cdv A outer s H vs Q E hc hr h => ?_)
  · obtain ⟨v, rfl, _⟩ := h
    rfl
  · obtain ⟨v, rfl, hT, hz, hG, q⟩ := h
    subst hc
    refine ⟨_, (pss_cons (ps_if (PW.pt (pw_or (pt_not (pt_val (pe_callB call_isi (by rfl) T.m_isinstance (by decide +kernel) (pa_cons (pv 0) (pa_cons (pe_bltn (v := .ty "str") (u := .type "str") rfl T.m_str (by decide +kernel) rfl) pa_nil))))) (pw_or1 (pt_not (pt_chain op_le op_le pe_int (pe_callB call_len_str (by rfl) T.m_len (by decide +kernel) (pa_cons (pv 0) pa_nil)) (pe_glob (v := .int 8) rfl g3 ⟨_, rfl⟩)))))) (pss_one (ps_ret pe_bl)) pss_nil)
      (pss_one (ps_ret (pe_and (pe_cmpR op_in_sign (pe_ix ix_str (pv 0) pe_int (fun _ _ => rfl)) (pe_glob (v := .str LETS) rfl g1 ⟨_, rfl⟩) rfl) (pe_one (pe_allG hr rfl T.m_all B rfl (gs_plain rfl rfl rfl rfl (by decide +kernel)) (pv 0) (elt_or (elt_inG rfl rfl rfl g1) (elt_inG rfl rfl rfl g2)))))))), ?_⟩
    obtain ⟨t, ty, kt⟩ := hT.str_ (K := K)
    refine ⟨_, rfl, v, .ty "str", t, .type "str", isStr v, rfl, .ty "str", ty, kt, _, rfl, ?_⟩
    have same : Tabbed P' H H := ⟨hG, fun _ _ => rfl⟩
    cases hs : isStr v with
    | false =>
      have q1 := q H same
      rw [nameV_no hs] at q1
      exact iteT (iteT q1)
    | true =>
      obtain ⟨z, rfl⟩ : ∃ z, v = .str z := by cases v <;> first | exact ⟨_, rfl⟩ | cases hs
      refine iteF ?_
      refine ⟨_, rfl, _, rfl, hz z rfl, _, _, rfl, rfl, _, rfl, ?_⟩
      have nb : nameV (.str z) = (decide (1 ≤ (z.length : Int)) && (decide ((z.length : Int) ≤ 8) && ((match z.cps.toList with
        | [] => false
        | c :: _ => isLet c) && z.cps.toList.all fun c => isLet c || isFig c))) := rfl
      rw [nb] at q
      refine iteB (fun c1 => ?_) fun c1 => ?_
      · obtain ⟨c, r, ec⟩ := head_of (of_decide_eq_true c1)
        rw [c1, ec] at q
        refine ⟨_, _, rfl, rfl, _, rfl, iteNb (fun c2 => ?_) fun c2 => ?_⟩
        · rw [c2] at q
          exact q H same
        · rw [c2] at q
          refine ⟨_, rfl, z, 0, c, rfl, rfl, hz z rfl, at_any (xs := z.cps.toList) (v := c) (j := 0) rfl (by rw [ec]; rfl), c, LETS, rfl, rfl, _, rfl, iteB (fun c3 => ?_) fun c3 => ?_⟩
          · refine ⟨_, rfl, z, rfl, hG, fun H2 h2 => ?_⟩
            have q2 : Q (.bl (isLet c && (c :: r).all fun c => isLet c || isFig c)) H2 := q H2 h2
            rw [show isLet c = true from c3] at q2
            rw [ec]
            exact q2
          · have q2 : Q (.bl (isLet c && (c :: r).all fun c => isLet c || isFig c)) H := q H same
            rw [show isLet c = false from c3] at q2
            exact q2
      · rw [c1] at q
        exact ⟨_, rfl, iteT (q H same)⟩

/-! ### traits -/
def TR : List V := [.str "left", .str "top", .str "wide", .str "high", .str "size", .str "ink"]
def TRS : List Str := ["left", "top", "wide", "high", "size", "ink"]
def traitV : V → Bool
  | .str z => inV (.str z) TR
  | _ => false
theorem traitV_no {v : V} (h : isStr v = false) : traitV v = false := by
  cases v <;> first | rfl | cases h
theorem trait_mem {v : V} (h : traitV v = true) : ∃ z, v = .str z ∧ z ∈ TRS := by
  cases v with
  | str z =>
    refine ⟨z, rfl, ?_⟩
    obtain ⟨y, hy, e⟩ := List.any_eq_true.mp (show (TR.any fun y => eqV y (.str z)) = true from h)
    simp only [TR, List.mem_cons, List.not_mem_nil, or_false] at hy
    rcases hy with rfl | rfl | rfl | rfl | rfl | rfl <;> (rw [← (beq_iff_eq.mp e : _ = z)]; decide +kernel)
  | _ => cases h
theorem trait_true {z : Str} (h : z ∈ TRS) : traitV (.str z) = true := by
  simp only [TRS, List.mem_cons, List.not_mem_nil, or_false] at h
  rcases h with rfl | rfl | rfl | rfl | rfl | rfl <;> decide +kernel
def spTrait : Sp := fun vs H Q _ => ∃ v, vs = [v] ∧ Th H v ∧ Q (.bl (traitV v)) H
def spOneOf (K : PySem.W.Frag) : Sp := fun vs H Q _ => ∃ (v : V) (a : Addr) (xs : List V), vs = [v, .ref a] ∧ Th H v ∧ SqT K H a xs ∧ xs.all flatV = true ∧ Q (.bl (isStr v && inV v xs)) H
/-! ### kinds -/
theorem ok_oneof {f : Addr} {fd : FuncData} (F : FnP K "is_one_of" sis_one_of f fd) (T : Txt K mg) : FnOk P w K mg base CX0 1 f fd ["thing", "words"] (spOneOf K) := by
  refine okN F scis_one_of (fun vs H Q E h => ?_) (fun cdv A outer s H vs Q E hr h => ?_)
  · obtain ⟨v, a, xs, rfl, _⟩ := h
    rfl
  · obtain ⟨v, a, xs, rfl, hT, ha, hf, q⟩ := h
    refine ⟨_, (pss_one (ps_ret (pe_and (pe_callB call_isi (by rfl) T.m_isinstance (by decide +kernel) (pa_cons (pv 0) (pa_cons (pe_bltn (v := .ty "str") (u := .type "str") rfl T.m_str (by decide +kernel) rfl) pa_nil))) (pe_one (pe_cmpR op_in_seq (pv 0) (pv 1) rfl))))), ?_⟩
    obtain ⟨t, ty, kt⟩ := hT.str_ (K := K)
    refine ⟨_, rfl, v, .ty "str", t, .type "str", isStr v, rfl, .ty "str", ty, kt, _, rfl, ?_⟩
    cases hs : isStr v with
    | false =>
      rw [hs] at q
      exact q
    | true =>
      obtain ⟨z, rfl⟩ : ∃ z, v = .str z := by cases v <;> first | exact ⟨_, rfl⟩ | cases hs
      refine iteT ?_
      exact ⟨_, rfl, _, rfl, _, xs, rfl, .inr ha, rfl, hf, q⟩
theorem ok_trait {f : Addr} {fd : FuncData} (F : FnP K "is_trait" sis_trait f fd) (gT : mg "TRAITS" = some (.ref (He.ga K "TRAITS"))) (tT : ∀ H, SqT K H (He.ga K "TRAITS") TR) (D_is_one_of : Dn P w K mg base 1 "is_one_of" ["thing", "words"] (spOneOf K)) : FnOk P w K mg base CX0 2 f fd ["thing"] spTrait := by
  refine okN F scis_trait (fun vs H Q E h => ?_) (fun cdv A outer s H vs Q E hr h => ?_)
  · obtain ⟨v, rfl, _⟩ := h
    rfl
  · obtain ⟨v, rfl, hT, q⟩ := h
    refine ⟨_, (pss_one (ps_ret (pe_dn D_is_one_of (hr.mono (by decide)) rfl (pa_cons (pv 0) (pa_cons (pe_glob (v := .ref (He.ga K "TRAITS")) rfl gT rfl) pa_nil))))), ?_⟩
    refine ⟨_, rfl, v, _, TR, rfl, hT, tT H, rfl, ?_⟩
    cases hs : isStr v with
    | false =>
      rw [traitV_no hs] at q
      exact q
    | true =>
      obtain ⟨z, rfl⟩ : ∃ z, v = .str z := by cases v <;> first | exact ⟨_, rfl⟩ | cases hs
      exact q

/-! ### whole numbers -/
def wholeV : V → Bool
  | .int _ => true
  | _ => false
def isInt : V → Bool
  | .int _ => true
  | .bl _ => true
  | _ => false
theorem Th.int_ {K : PySem.W.Frag} {H : Hp} {v : V} (h : Th H v) : ∃ t, TyX K H v t ∧ PySem.W.kitOne K t (.type "int") = some (isInt v) := by
  cases h with
  | non => exact ⟨_, .base .non, kit_ty (r := false) (by decide +kernel)⟩
  | bl b => exact ⟨_, .base (.bl b), kit_ty (r := true) (by decide +kernel)⟩
  | int i => exact ⟨_, .base (.int i), kit_ty (r := true) (by decide +kernel)⟩
  | str z => exact ⟨_, .base (.str z), kit_ty (r := false) (by decide +kernel)⟩
  | lst e => exact ⟨_, .base (.lst e), kit_ty (r := false) (by decide +kernel)⟩
  | tup e => exact ⟨_, .base (.tup e), kit_ty (r := false) (by decide +kernel)⟩
  | dK e => exact ⟨_, .base (.dK e), kit_ty (r := false) (by decide +kernel)⟩
theorem Th.bool_ {K : PySem.W.Frag} {H : Hp} {v : V} (h : Th H v) : ∃ t, TyX K H v t ∧ PySem.W.kitOne K t (.type "bool") = some (isBl v) := by
  cases h with
  | non => exact ⟨_, .base .non, kit_ty (r := false) (by decide +kernel)⟩
  | bl b => exact ⟨_, .base (.bl b), kit_ty (r := true) (by decide +kernel)⟩
  | int i => exact ⟨_, .base (.int i), kit_ty (r := false) (by decide +kernel)⟩
  | str z => exact ⟨_, .base (.str z), kit_ty (r := false) (by decide +kernel)⟩
  | lst e => exact ⟨_, .base (.lst e), kit_ty (r := false) (by decide +kernel)⟩
  | tup e => exact ⟨_, .base (.tup e), kit_ty (r := false) (by decide +kernel)⟩
  | dK e => exact ⟨_, .base (.dK e), kit_ty (r := false) (by decide +kernel)⟩
def spWhole : Sp := fun vs H Q _ => ∃ v, vs = [v] ∧ Th H v ∧ Q (.bl (wholeV v)) H
theorem ok_whole {f : Addr} {fd : FuncData} (F : FnP K "is_whole" sis_whole f fd) (T : Txt K mg) : FnOk P w K mg base CX0 1 f fd ["thing"] spWhole := by
  refine okN F scis_whole (fun vs H Q E h => ?_) (fun cdv A outer s H vs Q E hr h => ?_)
  · obtain ⟨v, rfl, _⟩ := h
    rfl
  · obtain ⟨v, rfl, hT, q⟩ := h
    refine ⟨_, (pss_one (ps_ret (pe_and (pe_callB call_isi (by rfl) T.m_isinstance (by decide +kernel) (pa_cons (pv 0) (pa_cons (pe_bltn (v := .ty "int") (u := .type "int") rfl T.m_int (by decide +kernel) rfl) pa_nil))) (pe_one (pe_not (pe_callB call_isi (by rfl) T.m_isinstance (by decide +kernel) (pa_cons (pv 0) (pa_cons (pe_bltn (v := .ty "bool") (u := .type "bool") rfl T.m_bool (by decide +kernel) rfl) pa_nil)))))))), ?_⟩
    obtain ⟨t, ty, kt⟩ := Th.int_ (K := K) hT
    obtain ⟨t', ty', kt'⟩ := Th.bool_ (K := K) hT
    refine ⟨_, rfl, v, .ty "int", t, .type "int", isInt v, rfl, .ty "int", ty, kt, _, rfl, ?_⟩
    cases hT with
    | int i =>
      refine iteT ?_
      exact ⟨_, rfl, .int i, .ty "bool", t', .type "bool", false, rfl, .ty "bool", ty', kt', _, rfl, q⟩
    | bl b =>
      refine iteT ?_
      exact ⟨_, rfl, .bl b, .ty "bool", t', .type "bool", true, rfl, .ty "bool", ty', kt', _, rfl, q⟩
    | _ => exact q
def withB (lo hi : Int) : V → Bool
  | .int n => decide (lo ≤ n) && decide (n ≤ hi)
  | _ => false
def spWithin : Sp := fun vs H Q _ => ∃ (v : V) (lo hi : Int), vs = [v, .int lo, .int hi] ∧ Th H v ∧ Q (.bl (withB lo hi v)) H
theorem ok_within {f : Addr} {fd : FuncData} (F : FnP K "is_whole_within" sis_whole_within f fd) (T : Txt K mg) (D_is_whole : Dn P w K mg base 1 "is_whole" ["thing"] spWhole) : FnOk P w K mg base CX0 2 f fd ["thing", "low", "high"] spWithin := by
  refine okN F scis_whole_within (fun vs H Q E h => ?_) (fun cdv A outer s H vs Q E hr h => ?_)
  · obtain ⟨v, lo, hi, rfl, _⟩ := h
    rfl
  · obtain ⟨v, lo, hi, rfl, hT, q⟩ := h
    refine ⟨_, (pss_one (ps_ret (pe_and (pe_dn D_is_whole (hr.mono (by decide)) rfl (pa_cons (pv 0) pa_nil)) (pe_one (pe_chain op_le op_le (pv 1) (pv 0) (pv 2)))))), ?_⟩
    refine ⟨_, rfl, v, rfl, hT, _, rfl, ?_⟩
    cases hw : wholeV v with
    | false =>
      have e : withB lo hi v = false := by cases v <;> first | rfl | cases hw
      rw [e] at q
      exact q
    | true =>
      obtain ⟨i, rfl⟩ : ∃ i, v = .int i := by cases v <;> first | exact ⟨_, rfl⟩ | cases hw
      refine iteT ?_
      have nb : withB lo hi (.int i) = (decide (lo ≤ i) && decide (i ≤ hi)) := rfl
      rw [nb] at q
      refine ⟨_, rfl, _, rfl, _, _, rfl, rfl, _, rfl, iteB (fun h3 => ?_) fun h3 => ?_⟩
      · rw [h3] at q
        exact ⟨_, rfl, _, _, rfl, rfl, q⟩
      · rw [h3] at q
        exact q
def WA : List V := [V.str "deck", V.str "deed", V.str "link", V.str "master", V.str "name", V.str "number", V.str "place", V.str "press", V.str "room", V.str "row", V.str "setting", V.str "show"]
def WB : List V := [V.str "slide", V.str "steps", V.str "text", V.str "time", V.str "trait", V.str "word", V.str "worth", V.str "ring", V.str "taken", V.str "many", V.str "used"]
/-! ### the word of an error -/
theorem kf (N : NT K mg) {x : Str} (hx : CLS.contains x = true) (hn : decide (x = "NoTrait") = false) : PySem.W.kitOne K (.ref (He.ga K "NoTrait")) (.ref (He.ga K x)) = some false := by
  rw [kitB_ok N.kit (List.contains_iff_mem.mp hx), hn]
theorem kt (N : NT K mg) : PySem.W.kitOne K (.ref (He.ga K "NoTrait")) (.ref (He.ga K "NoTrait")) = some true := by
  rw [kitB_ok N.kit (x := "NoTrait") (by decide +kernel)] <;> rfl
def spWord (K : PySem.W.Frag) : Sp := fun vs H Q _ => ∃ a, vs = [.ref a] ∧ H a = some (ExK (.ref (He.ga K "NoTrait")) none a) ∧ ∀ H', Same H H' → Q (.str "trait") H'
theorem ok_word {f : Addr} {fd : FuncData} (F : FnP K "_law_word" slaw_word f fd) (T : Txt K mg) (N : NT K mg) : FnOk P w K mg base CX0 1 f fd ["e"] (spWord K) := by
  refine okN F sclaw_word (fun vs H Q E h => ?_) (fun cdv A outer s H vs Q E hr h => ?_)
  · obtain ⟨a, rfl, _⟩ := h
    rfl
  · obtain ⟨a, rfl, hA, q⟩ := h
    refine ⟨_, (pss_cons (ps_set (i := 1) sclaw_word.nd rfl (Or.inl rfl) (pe_lst (pa_cons pe_str (pa_cons pe_str (pa_cons pe_str (pa_cons pe_str (pa_cons pe_str (pa_cons pe_str (pa_cons pe_str (pa_cons pe_str (pa_cons pe_str (pa_cons pe_str (pa_cons pe_str (pa_cons pe_str pa_nil))))))))))))))
      (pss_cons (ps_set (i := 1) sclaw_word.nd rfl (Or.inl rfl) (pe_op op_cat (pv 1) (pe_lst (pa_cons pe_str (pa_cons pe_str (pa_cons pe_str (pa_cons pe_str (pa_cons pe_str (pa_cons pe_str (pa_cons pe_str (pa_cons pe_str (pa_cons pe_str (pa_cons pe_str (pa_cons pe_str pa_nil))))))))))))))
      (pss_cons (ps_set (i := 2) sclaw_word.nd rfl (Or.inl rfl) (pe_lst (pa_cons (pe_callB call_isK (by rfl) T.m_isinstance (by decide +kernel) (pa_cons (pv 0) (pa_cons (pe_glob (v := .ref (He.ga K "NoDeck")) rfl (T.cls "NoDeck" (by decide +kernel)) rfl) pa_nil))) (pa_cons (pe_callB call_isK (by rfl) T.m_isinstance (by decide +kernel) (pa_cons (pv 0) (pa_cons (pe_glob (v := .ref (He.ga K "NoDeed")) rfl (T.cls "NoDeed" (by decide +kernel)) rfl) pa_nil))) (pa_cons (pe_callB call_isK (by rfl) T.m_isinstance (by decide +kernel) (pa_cons (pv 0) (pa_cons (pe_glob (v := .ref (He.ga K "NoLink")) rfl (T.cls "NoLink" (by decide +kernel)) rfl) pa_nil))) (pa_cons (pe_callB call_isK (by rfl) T.m_isinstance (by decide +kernel) (pa_cons (pv 0) (pa_cons (pe_glob (v := .ref (He.ga K "NoMaster")) rfl (T.cls "NoMaster" (by decide +kernel)) rfl) pa_nil))) pa_nil))))))
      (pss_cons (ps_set (i := 2) sclaw_word.nd rfl (Or.inl rfl) (pe_op op_cat (pv 2) (pe_lst (pa_cons (pe_callB call_isK (by rfl) T.m_isinstance (by decide +kernel) (pa_cons (pv 0) (pa_cons (pe_glob (v := .ref (He.ga K "NoName")) rfl (T.cls "NoName" (by decide +kernel)) rfl) pa_nil))) (pa_cons (pe_callB call_isK (by rfl) T.m_isinstance (by decide +kernel) (pa_cons (pv 0) (pa_cons (pe_glob (v := .ref (He.ga K "NoNumber")) rfl (T.cls "NoNumber" (by decide +kernel)) rfl) pa_nil))) (pa_cons (pe_callB call_isK (by rfl) T.m_isinstance (by decide +kernel) (pa_cons (pv 0) (pa_cons (pe_glob (v := .ref (He.ga K "NoPlace")) rfl (T.cls "NoPlace" (by decide +kernel)) rfl) pa_nil))) (pa_cons (pe_callB call_isK (by rfl) T.m_isinstance (by decide +kernel) (pa_cons (pv 0) (pa_cons (pe_glob (v := .ref (He.ga K "NoPress")) rfl (T.cls "NoPress" (by decide +kernel)) rfl) pa_nil))) pa_nil)))))))
      (pss_cons (ps_set (i := 2) sclaw_word.nd rfl (Or.inl rfl) (pe_op op_cat (pv 2) (pe_lst (pa_cons (pe_callB call_isK (by rfl) T.m_isinstance (by decide +kernel) (pa_cons (pv 0) (pa_cons (pe_glob (v := .ref (He.ga K "NoRoom")) rfl (T.cls "NoRoom" (by decide +kernel)) rfl) pa_nil))) (pa_cons (pe_callB call_isK (by rfl) T.m_isinstance (by decide +kernel) (pa_cons (pv 0) (pa_cons (pe_glob (v := .ref (He.ga K "NoRow")) rfl (T.cls "NoRow" (by decide +kernel)) rfl) pa_nil))) (pa_cons (pe_callB call_isK (by rfl) T.m_isinstance (by decide +kernel) (pa_cons (pv 0) (pa_cons (pe_glob (v := .ref (He.ga K "NoSetting")) rfl (T.cls "NoSetting" (by decide +kernel)) rfl) pa_nil))) (pa_cons (pe_callB call_isK (by rfl) T.m_isinstance (by decide +kernel) (pa_cons (pv 0) (pa_cons (pe_glob (v := .ref (He.ga K "NoShow")) rfl (T.cls "NoShow" (by decide +kernel)) rfl) pa_nil))) pa_nil)))))))
      (pss_cons (ps_set (i := 2) sclaw_word.nd rfl (Or.inl rfl) (pe_op op_cat (pv 2) (pe_lst (pa_cons (pe_callB call_isK (by rfl) T.m_isinstance (by decide +kernel) (pa_cons (pv 0) (pa_cons (pe_glob (v := .ref (He.ga K "NoSlide")) rfl (T.cls "NoSlide" (by decide +kernel)) rfl) pa_nil))) (pa_cons (pe_callB call_isK (by rfl) T.m_isinstance (by decide +kernel) (pa_cons (pv 0) (pa_cons (pe_glob (v := .ref (He.ga K "NoSteps")) rfl (T.cls "NoSteps" (by decide +kernel)) rfl) pa_nil))) (pa_cons (pe_callB call_isK (by rfl) T.m_isinstance (by decide +kernel) (pa_cons (pv 0) (pa_cons (pe_glob (v := .ref (He.ga K "NoText")) rfl (T.cls "NoText" (by decide +kernel)) rfl) pa_nil))) (pa_cons (pe_callB call_isK (by rfl) T.m_isinstance (by decide +kernel) (pa_cons (pv 0) (pa_cons (pe_glob (v := .ref (He.ga K "NoTime")) rfl (T.cls "NoTime" (by decide +kernel)) rfl) pa_nil))) pa_nil)))))))
      (pss_cons (ps_set (i := 2) sclaw_word.nd rfl (Or.inl rfl) (pe_op op_cat (pv 2) (pe_lst (pa_cons (pe_callB call_isK (by rfl) T.m_isinstance (by decide +kernel) (pa_cons (pv 0) (pa_cons (pe_glob (v := .ref (He.ga K "NoTrait")) rfl (T.cls "NoTrait" (by decide +kernel)) rfl) pa_nil))) (pa_cons (pe_callB call_isK (by rfl) T.m_isinstance (by decide +kernel) (pa_cons (pv 0) (pa_cons (pe_glob (v := .ref (He.ga K "NoWord")) rfl (T.cls "NoWord" (by decide +kernel)) rfl) pa_nil))) (pa_cons (pe_callB call_isK (by rfl) T.m_isinstance (by decide +kernel) (pa_cons (pv 0) (pa_cons (pe_glob (v := .ref (He.ga K "NoWorth")) rfl (T.cls "NoWorth" (by decide +kernel)) rfl) pa_nil))) (pa_cons (pe_callB call_isK (by rfl) T.m_isinstance (by decide +kernel) (pa_cons (pv 0) (pa_cons (pe_glob (v := .ref (He.ga K "Ring")) rfl (T.cls "Ring" (by decide +kernel)) rfl) pa_nil))) pa_nil)))))))
      (pss_cons (ps_set (i := 2) sclaw_word.nd rfl (Or.inl rfl) (pe_op op_cat (pv 2) (pe_lst (pa_cons (pe_callB call_isK (by rfl) T.m_isinstance (by decide +kernel) (pa_cons (pv 0) (pa_cons (pe_glob (v := .ref (He.ga K "Taken")) rfl (T.cls "Taken" (by decide +kernel)) rfl) pa_nil))) (pa_cons (pe_callB call_isK (by rfl) T.m_isinstance (by decide +kernel) (pa_cons (pv 0) (pa_cons (pe_glob (v := .ref (He.ga K "TooMany")) rfl (T.cls "TooMany" (by decide +kernel)) rfl) pa_nil))) (pa_cons (pe_callB call_isK (by rfl) T.m_isinstance (by decide +kernel) (pa_cons (pv 0) (pa_cons (pe_glob (v := .ref (He.ga K "Used")) rfl (T.cls "Used" (by decide +kernel)) rfl) pa_nil))) pa_nil))))))
      (pss_cons (ps_if (PW.pt (pw_or (pt_cmpR op_ne (pe_bm PySem.F.plainAttrs_list PySem.F.slot_list_count PySem.F.type_list_count mt_lcountV (pv 2) (pa_cons pe_bl pa_nil)) pe_int (nomark _)) (pw_or1 (pt_not (pt_val (pe_callB call_isK (by rfl) T.m_isinstance (by decide +kernel) (pa_cons (pv 0) (pa_cons (pe_bltn (v := .ty "ValueError") (u := .type "ValueError") rfl T.m_ValueError (by decide +kernel) rfl) pa_nil)))))))) (pss_one (ps_ret pe_str)) pss_nil)
      (pss_one (ps_ret (pe_ix ix_list (pv 1) (pe_bm PySem.F.plainAttrs_list PySem.F.slot_list_index PySem.F.type_list_index mt_index (pv 2) (pa_cons pe_bl pa_nil)) (fun _ _ => rfl))))))))))))), ?_⟩
    refine ⟨(by show 12 ≤ sizeLine; decide), fun w1 hw1 => ?_⟩
    have x1 : (upd H w1 (.lst WA)) w1 = some (.lst WA) := upd_same
    have n1 : Same H (upd H w1 (.lst WA)) := same_new hw1
    refine ⟨_, rfl, (by show 11 ≤ sizeLine; decide), fun w2 hw2 => ?_⟩
    have x2 : (upd (upd H w1 (.lst WA)) w2 (.lst WB)) w2 = some (.lst WB) := upd_same
    have n2 : Same (upd H w1 (.lst WA)) (upd (upd H w1 (.lst WA)) w2 (.lst WB)) := same_new hw2
    refine ⟨w1, w2, WA, WB, rfl, rfl, n2 _ _ x1, x2, (by show 23 ≤ sizeLine; decide), fun W hW => ?_⟩
    have eW : (upd (upd (upd H w1 (.lst WA)) w2 (.lst WB)) W (.lst (WA ++ WB))) W = some (.lst (WA ++ WB)) := upd_same
    have m0 : Same H (upd (upd (upd H w1 (.lst WA)) w2 (.lst WB)) W (.lst (WA ++ WB))) := (n1.trans n2).trans (same_new hW)
    revert eW m0
    show _ → _ → tSeq _ _ _ _ (upd (upd (upd H w1 (.lst WA)) w2 (.lst WB)) W (.lst (WA ++ WB)))
    generalize upd (upd (upd H w1 (.lst WA)) w2 (.lst WB)) W (.lst (WA ++ WB)) = HW
    intro eW m0
    refine ⟨_, rfl, a, _, _, _, false, rfl, m0 _ _ hA, N.c, fun _ e => e, kf N (x := "NoDeck") (by decide +kernel) (by decide +kernel), _, rfl, a, _, _, _, false, rfl, m0 _ _ hA, N.c, fun _ e => e, kf N (x := "NoDeed") (by decide +kernel) (by decide +kernel), _, rfl, a, _, _, _, false, rfl, m0 _ _ hA, N.c, fun _ e => e, kf N (x := "NoLink") (by decide +kernel) (by decide +kernel), _, rfl, a, _, _, _, false, rfl, m0 _ _ hA, N.c, fun _ e => e, kf N (x := "NoMaster") (by decide +kernel) (by decide +kernel), (by show 4 ≤ sizeLine; decide), fun p0 hp0 => ?_⟩
    have x_p0 : (upd HW p0 (.lst ([V.bl false, V.bl false, V.bl false, V.bl false]))) p0 = some (.lst ([V.bl false, V.bl false, V.bl false, V.bl false])) := upd_same
    have s_p0 : Same HW (upd HW p0 (.lst ([V.bl false, V.bl false, V.bl false, V.bl false]))) := same_new hp0
    revert x_p0 s_p0
    generalize upd HW p0 (.lst ([V.bl false, V.bl false, V.bl false, V.bl false])) = H_p0
    intro x_p0 s_p0
    have m1 := m0.trans s_p0
    refine ⟨_, rfl, _, rfl, a, _, _, _, false, rfl, m1 _ _ hA, N.c, fun _ e => e, kf N (x := "NoName") (by decide +kernel) (by decide +kernel), _, rfl, a, _, _, _, false, rfl, m1 _ _ hA, N.c, fun _ e => e, kf N (x := "NoNumber") (by decide +kernel) (by decide +kernel), _, rfl, a, _, _, _, false, rfl, m1 _ _ hA, N.c, fun _ e => e, kf N (x := "NoPlace") (by decide +kernel) (by decide +kernel), _, rfl, a, _, _, _, false, rfl, m1 _ _ hA, N.c, fun _ e => e, kf N (x := "NoPress") (by decide +kernel) (by decide +kernel), (by show 4 ≤ sizeLine; decide), fun p1 hp1 => ?_⟩
    have x_p1 : (upd H_p0 p1 (.lst ([V.bl false, V.bl false, V.bl false, V.bl false]))) p1 = some (.lst ([V.bl false, V.bl false, V.bl false, V.bl false])) := upd_same
    have s_p1 : Same H_p0 (upd H_p0 p1 (.lst ([V.bl false, V.bl false, V.bl false, V.bl false]))) := same_new hp1
    revert x_p1 s_p1
    generalize upd H_p0 p1 (.lst ([V.bl false, V.bl false, V.bl false, V.bl false])) = H_p1
    intro x_p1 s_p1
    refine ⟨_, _, _, _, rfl, rfl, s_p1 _ _ x_p0, x_p1, (by show 8 ≤ sizeLine; decide), fun r1 hr1 => ?_⟩
    have x_r1 : (upd H_p1 r1 (.lst ([V.bl false, V.bl false, V.bl false, V.bl false] ++ [V.bl false, V.bl false, V.bl false, V.bl false]))) r1 = some (.lst ([V.bl false, V.bl false, V.bl false, V.bl false] ++ [V.bl false, V.bl false, V.bl false, V.bl false])) := upd_same
    have s_r1 : Same H_p1 (upd H_p1 r1 (.lst ([V.bl false, V.bl false, V.bl false, V.bl false] ++ [V.bl false, V.bl false, V.bl false, V.bl false]))) := same_new hr1
    revert x_r1 s_r1
    generalize upd H_p1 r1 (.lst ([V.bl false, V.bl false, V.bl false, V.bl false] ++ [V.bl false, V.bl false, V.bl false, V.bl false])) = H_r1
    intro x_r1 s_r1
    have m2 := (m1.trans s_p1).trans s_r1
    refine ⟨_, rfl, _, rfl, a, _, _, _, false, rfl, m2 _ _ hA, N.c, fun _ e => e, kf N (x := "NoRoom") (by decide +kernel) (by decide +kernel), _, rfl, a, _, _, _, false, rfl, m2 _ _ hA, N.c, fun _ e => e, kf N (x := "NoRow") (by decide +kernel) (by decide +kernel), _, rfl, a, _, _, _, false, rfl, m2 _ _ hA, N.c, fun _ e => e, kf N (x := "NoSetting") (by decide +kernel) (by decide +kernel), _, rfl, a, _, _, _, false, rfl, m2 _ _ hA, N.c, fun _ e => e, kf N (x := "NoShow") (by decide +kernel) (by decide +kernel), (by show 4 ≤ sizeLine; decide), fun p2 hp2 => ?_⟩
    have x_p2 : (upd H_r1 p2 (.lst ([V.bl false, V.bl false, V.bl false, V.bl false]))) p2 = some (.lst ([V.bl false, V.bl false, V.bl false, V.bl false])) := upd_same
    have s_p2 : Same H_r1 (upd H_r1 p2 (.lst ([V.bl false, V.bl false, V.bl false, V.bl false]))) := same_new hp2
    revert x_p2 s_p2
    generalize upd H_r1 p2 (.lst ([V.bl false, V.bl false, V.bl false, V.bl false])) = H_p2
    intro x_p2 s_p2
    refine ⟨_, _, _, _, rfl, rfl, s_p2 _ _ x_r1, x_p2, (by show 12 ≤ sizeLine; decide), fun r2 hr2 => ?_⟩
    have x_r2 : (upd H_p2 r2 (.lst ([V.bl false, V.bl false, V.bl false, V.bl false] ++ [V.bl false, V.bl false, V.bl false, V.bl false] ++ [V.bl false, V.bl false, V.bl false, V.bl false]))) r2 = some (.lst ([V.bl false, V.bl false, V.bl false, V.bl false] ++ [V.bl false, V.bl false, V.bl false, V.bl false] ++ [V.bl false, V.bl false, V.bl false, V.bl false])) := upd_same
    have s_r2 : Same H_p2 (upd H_p2 r2 (.lst ([V.bl false, V.bl false, V.bl false, V.bl false] ++ [V.bl false, V.bl false, V.bl false, V.bl false] ++ [V.bl false, V.bl false, V.bl false, V.bl false]))) := same_new hr2
    revert x_r2 s_r2
    generalize upd H_p2 r2 (.lst ([V.bl false, V.bl false, V.bl false, V.bl false] ++ [V.bl false, V.bl false, V.bl false, V.bl false] ++ [V.bl false, V.bl false, V.bl false, V.bl false])) = H_r2
    intro x_r2 s_r2
    have m3 := (m2.trans s_p2).trans s_r2
    refine ⟨_, rfl, _, rfl, a, _, _, _, false, rfl, m3 _ _ hA, N.c, fun _ e => e, kf N (x := "NoSlide") (by decide +kernel) (by decide +kernel), _, rfl, a, _, _, _, false, rfl, m3 _ _ hA, N.c, fun _ e => e, kf N (x := "NoSteps") (by decide +kernel) (by decide +kernel), _, rfl, a, _, _, _, false, rfl, m3 _ _ hA, N.c, fun _ e => e, kf N (x := "NoText") (by decide +kernel) (by decide +kernel), _, rfl, a, _, _, _, false, rfl, m3 _ _ hA, N.c, fun _ e => e, kf N (x := "NoTime") (by decide +kernel) (by decide +kernel), (by show 4 ≤ sizeLine; decide), fun p3 hp3 => ?_⟩
    have x_p3 : (upd H_r2 p3 (.lst ([V.bl false, V.bl false, V.bl false, V.bl false]))) p3 = some (.lst ([V.bl false, V.bl false, V.bl false, V.bl false])) := upd_same
    have s_p3 : Same H_r2 (upd H_r2 p3 (.lst ([V.bl false, V.bl false, V.bl false, V.bl false]))) := same_new hp3
    revert x_p3 s_p3
    generalize upd H_r2 p3 (.lst ([V.bl false, V.bl false, V.bl false, V.bl false])) = H_p3
    intro x_p3 s_p3
    refine ⟨_, _, _, _, rfl, rfl, s_p3 _ _ x_r2, x_p3, (by show 16 ≤ sizeLine; decide), fun r3 hr3 => ?_⟩
    have x_r3 : (upd H_p3 r3 (.lst ([V.bl false, V.bl false, V.bl false, V.bl false] ++ [V.bl false, V.bl false, V.bl false, V.bl false] ++ [V.bl false, V.bl false, V.bl false, V.bl false] ++ [V.bl false, V.bl false, V.bl false, V.bl false]))) r3 = some (.lst ([V.bl false, V.bl false, V.bl false, V.bl false] ++ [V.bl false, V.bl false, V.bl false, V.bl false] ++ [V.bl false, V.bl false, V.bl false, V.bl false] ++ [V.bl false, V.bl false, V.bl false, V.bl false])) := upd_same
    have s_r3 : Same H_p3 (upd H_p3 r3 (.lst ([V.bl false, V.bl false, V.bl false, V.bl false] ++ [V.bl false, V.bl false, V.bl false, V.bl false] ++ [V.bl false, V.bl false, V.bl false, V.bl false] ++ [V.bl false, V.bl false, V.bl false, V.bl false]))) := same_new hr3
    revert x_r3 s_r3
    generalize upd H_p3 r3 (.lst ([V.bl false, V.bl false, V.bl false, V.bl false] ++ [V.bl false, V.bl false, V.bl false, V.bl false] ++ [V.bl false, V.bl false, V.bl false, V.bl false] ++ [V.bl false, V.bl false, V.bl false, V.bl false])) = H_r3
    intro x_r3 s_r3
    have m4 := (m3.trans s_p3).trans s_r3
    refine ⟨_, rfl, _, rfl, a, _, _, _, true, rfl, m4 _ _ hA, N.c, fun _ e => e, kt N, _, rfl, a, _, _, _, false, rfl, m4 _ _ hA, N.c, fun _ e => e, kf N (x := "NoWord") (by decide +kernel) (by decide +kernel), _, rfl, a, _, _, _, false, rfl, m4 _ _ hA, N.c, fun _ e => e, kf N (x := "NoWorth") (by decide +kernel) (by decide +kernel), _, rfl, a, _, _, _, false, rfl, m4 _ _ hA, N.c, fun _ e => e, kf N (x := "Ring") (by decide +kernel) (by decide +kernel), (by show 4 ≤ sizeLine; decide), fun p4 hp4 => ?_⟩
    have x_p4 : (upd H_r3 p4 (.lst ([V.bl true, V.bl false, V.bl false, V.bl false]))) p4 = some (.lst ([V.bl true, V.bl false, V.bl false, V.bl false])) := upd_same
    have s_p4 : Same H_r3 (upd H_r3 p4 (.lst ([V.bl true, V.bl false, V.bl false, V.bl false]))) := same_new hp4
    revert x_p4 s_p4
    generalize upd H_r3 p4 (.lst ([V.bl true, V.bl false, V.bl false, V.bl false])) = H_p4
    intro x_p4 s_p4
    refine ⟨_, _, _, _, rfl, rfl, s_p4 _ _ x_r3, x_p4, (by show 20 ≤ sizeLine; decide), fun r4 hr4 => ?_⟩
    have x_r4 : (upd H_p4 r4 (.lst ([V.bl false, V.bl false, V.bl false, V.bl false] ++ [V.bl false, V.bl false, V.bl false, V.bl false] ++ [V.bl false, V.bl false, V.bl false, V.bl false] ++ [V.bl false, V.bl false, V.bl false, V.bl false] ++ [V.bl true, V.bl false, V.bl false, V.bl false]))) r4 = some (.lst ([V.bl false, V.bl false, V.bl false, V.bl false] ++ [V.bl false, V.bl false, V.bl false, V.bl false] ++ [V.bl false, V.bl false, V.bl false, V.bl false] ++ [V.bl false, V.bl false, V.bl false, V.bl false] ++ [V.bl true, V.bl false, V.bl false, V.bl false])) := upd_same
    have s_r4 : Same H_p4 (upd H_p4 r4 (.lst ([V.bl false, V.bl false, V.bl false, V.bl false] ++ [V.bl false, V.bl false, V.bl false, V.bl false] ++ [V.bl false, V.bl false, V.bl false, V.bl false] ++ [V.bl false, V.bl false, V.bl false, V.bl false] ++ [V.bl true, V.bl false, V.bl false, V.bl false]))) := same_new hr4
    revert x_r4 s_r4
    generalize upd H_p4 r4 (.lst ([V.bl false, V.bl false, V.bl false, V.bl false] ++ [V.bl false, V.bl false, V.bl false, V.bl false] ++ [V.bl false, V.bl false, V.bl false, V.bl false] ++ [V.bl false, V.bl false, V.bl false, V.bl false] ++ [V.bl true, V.bl false, V.bl false, V.bl false])) = H_r4
    intro x_r4 s_r4
    have m5 := (m4.trans s_p4).trans s_r4
    refine ⟨_, rfl, _, rfl, a, _, _, _, false, rfl, m5 _ _ hA, N.c, fun _ e => e, kf N (x := "Taken") (by decide +kernel) (by decide +kernel), _, rfl, a, _, _, _, false, rfl, m5 _ _ hA, N.c, fun _ e => e, kf N (x := "TooMany") (by decide +kernel) (by decide +kernel), _, rfl, a, _, _, _, false, rfl, m5 _ _ hA, N.c, fun _ e => e, kf N (x := "Used") (by decide +kernel) (by decide +kernel), (by show 3 ≤ sizeLine; decide), fun p5 hp5 => ?_⟩
    have x_p5 : (upd H_r4 p5 (.lst ([V.bl false, V.bl false, V.bl false]))) p5 = some (.lst ([V.bl false, V.bl false, V.bl false])) := upd_same
    have s_p5 : Same H_r4 (upd H_r4 p5 (.lst ([V.bl false, V.bl false, V.bl false]))) := same_new hp5
    revert x_p5 s_p5
    generalize upd H_r4 p5 (.lst ([V.bl false, V.bl false, V.bl false])) = H_p5
    intro x_p5 s_p5
    refine ⟨_, _, _, _, rfl, rfl, s_p5 _ _ x_r4, x_p5, (by show 23 ≤ sizeLine; decide), fun r5 hr5 => ?_⟩
    have x_r5 : (upd H_p5 r5 (.lst ([V.bl false, V.bl false, V.bl false, V.bl false] ++ [V.bl false, V.bl false, V.bl false, V.bl false] ++ [V.bl false, V.bl false, V.bl false, V.bl false] ++ [V.bl false, V.bl false, V.bl false, V.bl false] ++ [V.bl true, V.bl false, V.bl false, V.bl false] ++ [V.bl false, V.bl false, V.bl false]))) r5 = some (.lst ([V.bl false, V.bl false, V.bl false, V.bl false] ++ [V.bl false, V.bl false, V.bl false, V.bl false] ++ [V.bl false, V.bl false, V.bl false, V.bl false] ++ [V.bl false, V.bl false, V.bl false, V.bl false] ++ [V.bl true, V.bl false, V.bl false, V.bl false] ++ [V.bl false, V.bl false, V.bl false])) := upd_same
    have s_r5 : Same H_p5 (upd H_p5 r5 (.lst ([V.bl false, V.bl false, V.bl false, V.bl false] ++ [V.bl false, V.bl false, V.bl false, V.bl false] ++ [V.bl false, V.bl false, V.bl false, V.bl false] ++ [V.bl false, V.bl false, V.bl false, V.bl false] ++ [V.bl true, V.bl false, V.bl false, V.bl false] ++ [V.bl false, V.bl false, V.bl false]))) := same_new hr5
    revert x_r5 s_r5
    generalize upd H_p5 r5 (.lst ([V.bl false, V.bl false, V.bl false, V.bl false] ++ [V.bl false, V.bl false, V.bl false, V.bl false] ++ [V.bl false, V.bl false, V.bl false, V.bl false] ++ [V.bl false, V.bl false, V.bl false, V.bl false] ++ [V.bl true, V.bl false, V.bl false, V.bl false] ++ [V.bl false, V.bl false, V.bl false])) = H_r5
    intro x_r5 s_r5
    have m6 := (m5.trans s_p5).trans s_r5

    have eW := (((((s_p0.trans s_p1).trans s_r1).trans ((s_p2.trans s_r2).trans (s_p3.trans s_r3))).trans (s_p4.trans s_r4)).trans (s_p5.trans s_r5)) _ _ eW
    have xs := x_r5
    generalize eB : ((((([V.bl false, V.bl false, V.bl false, V.bl false] ++ [V.bl false, V.bl false, V.bl false, V.bl false]) ++ [V.bl false, V.bl false, V.bl false, V.bl false]) ++ [V.bl false, V.bl false, V.bl false, V.bl false]) ++ [V.bl true, V.bl false, V.bl false, V.bl false]) ++ [V.bl false, V.bl false, V.bl false]) = bs at xs
    have c1 : bs.countP (fun z => eqV z (.bl true)) = 1 := by rw [← eB] <;> rfl
    have c2 : bs.all flatV = true := by rw [← eB] <;> rfl
    have c3 : bs[16]? = some (.bl true) := by rw [← eB] <;> rfl
    have c4 : ∀ (m : Nat) (z' : V), m < 16 → bs[m]? = some z' → eqV z' (.bl true) = false := by
      rw [← eB]
      intro m z' hm hz
      have h : m = 0 ∨ m = 1 ∨ m = 2 ∨ m = 3 ∨ m = 4 ∨ m = 5 ∨ m = 6 ∨ m = 7 ∨ m = 8 ∨ m = 9 ∨ m = 10 ∨ m = 11 ∨ m = 12 ∨ m = 13 ∨ m = 14 ∨ m = 15 := by omega
      rcases h with rfl | rfl | rfl | rfl | rfl | rfl | rfl | rfl | rfl | rfl | rfl | rfl | rfl | rfl | rfl | rfl <;> (cases hz <;> rfl)
    refine ⟨_, rfl, .inl ⟨rfl, _, SqL.of xs⟩, r5, bs, .bl true, rfl, rfl, SqL.of xs, rfl, c2, ?_⟩
    rw [c1]
    refine ⟨rfl, _, rfl, iteF ?_⟩
    refine ⟨_, rfl, a, _, .ty "ValueError", .type "ValueError", true, rfl, m6 _ _ hA, N.c, fun _ e => e, N.kv, _, rfl, iteF ?_⟩
    refine ⟨_, rfl, _, rfl, .inl ⟨rfl, _, SqL.of xs⟩, r5, bs, .bl true, 16, .bl true, rfl, rfl, SqL.of xs, rfl, c2, c3, rfl, c4, ?_⟩
    exact ⟨W, _, _, .str "trait", rfl, rfl, SqL.of eW, at_any (j := 16) rfl rfl, q _ m6⟩
/-! ### worths -/
def bnd (z : Str) : Int × Int := if z = "left" then (-999, 999) else if z = "top" then (-999, 999) else if z = "size" then (1, 99) else (1, 999)
def betw (b : Int × Int) : V → Bool
  | .int n => decide (b.1 ≤ n) && decide (n ≤ b.2)
  | _ => false
def worthB (z : Str) (x : V) : Bool := if z = "ink" then nameV x else betw (bnd z) x
theorem betw_no {b : Int × Int} {x : V} (h : wholeV x = false) : betw b x = false := by
  cases x <;> first | rfl | cases h
structure BN (K : PySem.W.Frag) (w : World) : Prop where
  bd : ∀ z ∈ TRS, z ≠ "ink" → ∃ a, KDct K w (He.ga K "BOUNDS") z (.ref a) ∧ ∀ H, SqT K H a [.int (bnd z).1, .int (bnd z).2]
def spWorth (K : PySem.W.Frag) (P' : Addr) : Sp := fun vs H Q E => ∃ v x, vs = [v, x] ∧ Ok1 H v ∧ Ok1 H x ∧ TabG H P' ∧ (traitV v = false → E (.ref (He.ga K "NoTrait")) none H) ∧ (∀ z, v = .str z → z ∈ TRS → ∀ H2, Tabbed P' H H2 → Q (.bl (worthB z x)) H2)
theorem ok_worth {f : Addr} {fd : FuncData} {P' : Addr} (F : FnP K "is_worth" sis_worth f fd) (T : Txt K mg) (N : NT K mg) (B : BN K w) (gB : mg "BOUNDS" = some (.ref (He.ga K "BOUNDS")))
    (D_is_trait : Dn P w K mg base 2 "is_trait" ["thing"] spTrait) (D_is_name : Dn P w K mg base 1 "is_name" ["thing"] (spName P')) (D_is_whole_within : Dn P w K mg base 2 "is_whole_within" ["thing", "low", "high"] spWithin) :
    FnOk P w K mg base (L2.CX P w) 3 f fd ["trait", "thing"] (spWorth K P') := by
  refine okS F scis_worth (fun vs H Q E h => ?_) (fun cdv A outer s H vs Q E hr h => ?_)
  · obtain ⟨v, x, rfl, _⟩ := h
    rfl
  · obtain ⟨v, x, rfl, hv, hx, hG, ko, q⟩ := h
    refine ⟨_, (pss_cons (ps_if (pt_not (pt_val (pe_dn D_is_trait (hr.mono (by decide)) rfl (pa_cons (pv 0) pa_nil)))) (pss_one (ps_raise rfl (takes_of rfl rfl rfl rfl) (pmk_own PySem.F.excBase_ValueError N.x (T.cls "NoTrait" (by decide +kernel)) N.k (raises_own N.b N.t) rfl))) pss_nil)
      (pss_cons (ps_if (pt_cmpR op_eq (pv 0) pe_str (nomark _)) (pss_one (ps_ret (pe_dn D_is_name (hr.mono (by decide)) rfl (pa_cons (pv 1) pa_nil)))) pss_nil)
      (pss_cons (ps_asg (pe_ix ix_kdict (pe_glob (v := .ref (He.ga K "BOUNDS")) rfl gB rfl) (pv 0) (fun _ _ => rfl)) (pg_tup rfl (pgs_cons (pg_name (i := 2) scis_worth.nd rfl (Or.inl rfl)) (pgs_cons (pg_name (i := 3) scis_worth.nd rfl (Or.inl rfl)) pgs_nil))))
      (pss_one (ps_ret (pe_dn D_is_whole_within (hr.mono (by decide)) rfl (pa_cons (pv 1) (pa_cons (pv 2) (pa_cons (pv 3) pa_nil))))))))), ?_⟩
    refine ⟨_, rfl, v, rfl, hv.1, _, rfl, iteNb (fun h1 => ?_) fun h1 => ?_⟩
    · exact ko h1
    · obtain ⟨z, rfl, mz⟩ := trait_mem h1
      have q := q z rfl mz
      refine ⟨_, rfl, rfl, _, rfl, iteB (fun h2 => ?_) fun h2 => ?_⟩
      · have e2 : z = "ink" := V.str.inj (of_decide_eq_true h2)
        refine ⟨_, rfl, x, rfl, hx.1, hx.2, hG, fun H2 h => ?_⟩
        have q := q H2 h
        rw [show worthB z x = nameV x from if_pos e2] at q
        exact q
      · have n2 : z ≠ "ink" := fun e => of_decide_eq_false h2 (by rw [e])
        have q := q H ⟨hG, fun _ _ => rfl⟩
        rw [show worthB z x = betw (bnd z) x from if_neg n2] at q
        obtain ⟨a, kd, sq⟩ := B.bd z mz n2
        refine ⟨_, rfl, _, z, _, rfl, rfl, kd, a, _, rfl, sq H, rfl, _, _, rfl, _, _, rfl, rfl, ?_⟩
        refine ⟨_, rfl, _, rfl, _, rfl, x, _, _, rfl, hx.1, ?_⟩
        have e : withB (bnd z).1 (bnd z).2 x = betw (bnd z) x := by cases x <;> rfl
        rw [e]
        exact q
/-! ### the law's own -/
theorem r1 {k : Nat} {A : Around} (r : Room k A) : A.units + 1 < cLine := by
  have := r.un
  omega
theorem let_mem : ∀ c ∈ LETS.cps.toList, 97 ≤ c ∧ c ≤ 122 := by decide +kernel
theorem let_all : ∀ c : Fin 123, 97 ≤ c.val → isLet c.val = true := by decide +kernel
theorem let_iff (c : Nat) : isLet c = (!decide (c < 97) && !decide (122 < c)) := by
  rw [Bool.eq_iff_iff, Bool.and_eq_true, Bool.not_eq_true', Bool.not_eq_true', decide_eq_false_iff_not, decide_eq_false_iff_not]
  constructor
  · intro h
    have := let_mem c (of_decide_eq_true h)
    omega
  · intro h
    exact let_all ⟨c, by omega⟩ (by show 97 ≤ c; omega)
def ALNUM : Str := "abcdefghijklmnopqrstuvwxyz0123456789"
theorem alnum : ALNUM = LETS ++ FIGS := by decide +kernel
theorem lt1 (a b : Nat) : decide (([a] : List Nat) < [b]) = decide (a < b) := by
  rw [Bool.eq_iff_iff, decide_eq_true_eq, decide_eq_true_eq]
  simp [List.cons_lt_cons_iff]
def TB3 (a1 a2 a3 : Addr) : List (Key × V) := [(.inr "left", .ref a1), (.inr "top", .ref a2), (.inr "size", .ref a3)]
theorem tb3 {a1 a2 a3 a4 : Addr} {H : Hp} (e1 : H a1 = some (.tup [.int (-999), .int 999])) (e2 : H a2 = some (.tup [.int (-999), .int 999])) (e3 : H a3 = some (.tup [.int 1, .int 99])) (e4 : H a4 = some (.tup [.int 1, .int 999])) {z : Str} (hz : z ∈ TRS) (n : z ≠ "ink") :
    ∃ a, (valV (mergeK [] (TB3 a1 a2 a3)) (.inr z)).getD (.ref a4) = .ref a ∧ H a = some (.tup [.int (bnd z).1, .int (bnd z).2]) := by
  simp only [TRS, List.mem_cons, List.not_mem_nil, or_false] at hz
  rcases hz with rfl | rfl | rfl | rfl | rfl | rfl
  · exact ⟨a1, rfl, e1⟩
  · exact ⟨a2, rfl, e2⟩
  · exact ⟨a4, rfl, e4⟩
  · exact ⟨a4, rfl, e4⟩
  · exact ⟨a3, rfl, e3⟩
  · exact absurd rfl n
def spIsW : Sp := fun vs H Q _ => ∃ (z : Str) (x : V), vs = [.str z, x] ∧ z ∈ TRS ∧ Ok1 H x ∧ ∀ H2, Same H H2 → Q (.bl (worthB z x)) H2
theorem ok_isW {f : Addr} {fd : FuncData} (F : FnP K "_law_is" slaw_is f fd) (T : Txt K mg) : FnOk P w K mg base CX0 1 f fd ["trait", "thing"] spIsW := by
  refine okN F sclaw_is (fun vs H Q E h => ?_) (fun cdv A outer s H vs Q E hr h => ?_)
  · obtain ⟨z, x, rfl, _⟩ := h
    rfl
  · obtain ⟨z, x, rfl, mz, ⟨hT, hx⟩, q⟩ := h
    refine ⟨_, (pss_cons (ps_if (pt_cmpR op_eq (pv 0) pe_str (nomark _)) (pss_cons (ps_if (PW.pt (pw_or (pt_not (pt_val (pe_callB call_isi (by rfl) T.m_isinstance (by decide +kernel) (pa_cons (pv 1) (pa_cons (pe_bltn (v := .ty "str") (u := .type "str") rfl T.m_str (by decide +kernel) rfl) pa_nil))))) (pw_or (pt_not (pt_chain op_le op_le pe_int (pe_callB call_len_str (by rfl) T.m_len (by decide +kernel) (pa_cons (pv 1) pa_nil)) pe_int)) (pw_or1 (pt_not (pt_chain op_le_str op_le_str pe_str (pe_ix ix_str (pv 1) pe_int (fun _ _ => rfl)) pe_str)))))) (pss_one (ps_ret pe_bl)) pss_nil)
      (pss_one (ps_ret (pe_callB (cr_all rfl) (by rfl) T.m_all (by decide +kernel) (pa_cons (pe_lc (own := [("sign", 4)]) (g := gName 4) (by rfl) sclaw_is.nd (pi_str (pv 1)) (blkOk_by (own := [("sign", 4)]) (N := ["trait", "thing", "least", "most", "sign"]) (sc := defScope slaw_is) (by decide +kernel)) (fun _ _ _ _ _ => (pg_name (i := 4) sclaw_is.nd rfl (Or.inl rfl))) (fun _ _ _ _ _ => pts_nil) (fun _ _ _ _ _ => (pe_cmpR op_in_sign (pv 4) pe_str rfl))) pa_nil))))) pss_nil)
      (pss_cons (ps_asg (pe_dget2 (r1 hr) (pe_disp (pps_cons pe_str (pe_tup (pa_cons (pe_un un_neg pe_int) (pa_cons pe_int pa_nil))) (pps_cons pe_str (pe_tup (pa_cons (pe_un un_neg pe_int) (pa_cons pe_int pa_nil))) (pps_cons pe_str (pe_tup (pa_cons pe_int (pa_cons pe_int pa_nil))) pps_nil))) (by rfl) (by rfl) (fun z => by cases z) (by decide)) (pv 0) (pe_tup (pa_cons pe_int (pa_cons pe_int pa_nil))) ⟨by rfl, by rfl, by rfl, by rfl⟩) (pg_tup rfl (pgs_cons (pg_name (i := 2) sclaw_is.nd rfl (Or.inl rfl)) (pgs_cons (pg_name (i := 3) sclaw_is.nd rfl (Or.inl rfl)) pgs_nil))))
      (pss_one (ps_ret (pe_and (pe_callB call_isi (by rfl) T.m_isinstance (by decide +kernel) (pa_cons (pv 1) (pa_cons (pe_bltn (v := .ty "int") (u := .type "int") rfl T.m_int (by decide +kernel) rfl) pa_nil))) (pe_and (pe_not (pe_callB call_isi (by rfl) T.m_isinstance (by decide +kernel) (pa_cons (pv 1) (pa_cons (pe_bltn (v := .ty "bool") (u := .type "bool") rfl T.m_bool (by decide +kernel) rfl) pa_nil)))) (pe_one (pe_chain op_le op_le (pv 2) (pv 1) (pv 3))))))))), ?_⟩
    refine ⟨_, rfl, rfl, _, rfl, iteB (fun h2 => ?_) fun h2 => ?_⟩
    · have e2 : z = "ink" := V.str.inj (of_decide_eq_true h2)
      rw [show worthB z x = nameV x from if_pos e2] at q
      obtain ⟨t, ty, kt⟩ := hT.str_ (K := K)
      refine ⟨_, rfl, x, .ty "str", t, .type "str", isStr x, rfl, .ty "str", ty, kt, _, rfl, ?_⟩
      cases hs : isStr x with
      | false =>
        have q1 := q H (Same.refl H)
        rw [nameV_no hs] at q1
        exact iteT (iteT q1)
      | true =>
        obtain ⟨y, rfl⟩ : ∃ y, x = .str y := by cases x <;> first | exact ⟨_, rfl⟩ | cases hs
        have yz := hx y rfl
        refine iteF ?_
        refine ⟨_, rfl, y, rfl, yz, _, _, rfl, rfl, _, rfl, ?_⟩
        have nb : nameV (.str y) = (decide (1 ≤ (y.length : Int)) && (decide ((y.length : Int) ≤ 8) && ((match y.cps.toList with
          | [] => false
          | c :: _ => isLet c) && y.cps.toList.all fun c => isLet c || isFig c))) := rfl
        rw [nb] at q
        refine iteB (fun c1 => ?_) fun c1 => ?_
        · obtain ⟨c, r, ec⟩ := head_of (of_decide_eq_true c1)
          rw [c1, ec] at q
          refine ⟨_, _, rfl, rfl, _, rfl, iteNb (fun c2 => ?_) fun c2 => ?_⟩
          · rw [c2] at q
            exact iteT (q H (Same.refl H))
          · rw [c2] at q
            refine ⟨_, rfl, y, 0, c, rfl, rfl, yz, at_any (xs := y.cps.toList) (v := c) (j := 0) rfl (by rw [ec]; rfl), _, _, rfl, rfl, _, rfl, ?_⟩
            have q2 : ∀ H2, Same H H2 → Q (.bl (isLet c && (c :: r).all fun c => isLet c || isFig c)) H2 := q
            rw [let_iff c] at q2
            have e3 : (!decide ((⟨#[c]⟩ : Str).cps.toList < ("a" : Str).cps.toList)) = !decide (c < 97) := congrArg Bool.not (lt1 c 97)
            have e4 : (!decide (("z" : Str).cps.toList < (⟨#[c]⟩ : Str).cps.toList)) = !decide (122 < c) := congrArg Bool.not (lt1 122 c)
            refine iteB (fun h3 => ?_) fun h3 => ?_
            · rw [e3.symm.trans h3] at q2
              refine ⟨_, _, rfl, rfl, _, rfl, iteNb (fun h4 => ?_) fun h4 => ?_⟩
              · rw [e4.symm.trans h4] at q2
                exact q2 H (Same.refl H)
              · rw [e4.symm.trans h4] at q2
                refine ⟨_, rfl, y, rfl, fun D hD => ?_⟩
                refine lc_str (fun i H3 => Same H H3 ∧ H3 D = some (.lst (((y.cps.toList.take i).map fun c => decide (c ∈ ALNUM.cps.toList)).map V.bl))) ⟨same_new hD, upd_same⟩ ?_ ?_
                · rintro i ch H3 hi ⟨s3, x3⟩
                  refine ⟨rfl, ?_⟩
                  refine ⟨_, rfl, ch, _, rfl, rfl, _, x3, ?_, fun b o e => ?_, ?_⟩
                  · rw [List.length_map, List.length_map, List.length_take, cps_len]
                    have h8 := of_decide_eq_true c2
                    exact small1000 (by omega)
                  · rw [upd_ne (ne_of_none e hD)]
                    exact s3 b o e
                  · rw [upd_same, bls_take hi, List.map_append] <;> rfl
                · rintro H3 ⟨s3, x3⟩
                  rw [List.take_length] at x3
                  refine ⟨_, _, rfl, SqL.of x3, ?_⟩
                  have ef : (fun c => decide (c ∈ ALNUM.cps.toList)) = fun c => isLet c || isFig c := funext fun c => by rw [alnum]; exact both_lets c
                  rw [all_id, ec, ef]
                  exact q2 H3 s3
            · rw [e3.symm.trans h3] at q2
              exact ⟨_, rfl, iteT (q2 H (Same.refl H))⟩
        · rw [c1] at q
          exact ⟨_, rfl, iteT (q H (Same.refl H))⟩
    · have n2 : z ≠ "ink" := fun e => of_decide_eq_false h2 (by rw [e])
      rw [show worthB z x = betw (bnd z) x from if_neg n2] at q
      intro p hp
      refine ⟨_, rfl, (by show 2 ≤ sizeLine; decide), fun a1 h1 => ⟨_, rfl, (by show 2 ≤ sizeLine; decide), fun a2 h2 => ⟨(by show 2 ≤ sizeLine; decide), fun a3 h3 => ?_⟩⟩⟩
      have s1 : Same (upd H p (.dK [])) (upd (upd H p (.dK [])) a1 (.tup [.int (-999), .int 999])) := same_new h1
      have s2 : Same (upd (upd H p (.dK [])) a1 (.tup [.int (-999), .int 999])) (upd (upd (upd H p (.dK [])) a1 (.tup [.int (-999), .int 999])) a2 (.tup [.int (-999), .int 999])) := same_new h2
      have s3 : Same (upd (upd (upd H p (.dK [])) a1 (.tup [.int (-999), .int 999])) a2 (.tup [.int (-999), .int 999])) (upd (upd (upd (upd H p (.dK [])) a1 (.tup [.int (-999), .int 999])) a2 (.tup [.int (-999), .int 999])) a3 (.tup [.int 1, .int 99])) := same_new h3
      have y0 := s3 _ _ (s2 _ _ (s1 p _ upd_same))
      have y1 := s3 _ _ (s2 a1 _ upd_same)
      have y2 := s3 a2 _ upd_same
      have y3 : (upd (upd (upd (upd H p (.dK [])) a1 (.tup [.int (-999), .int 999])) a2 (.tup [.int (-999), .int 999])) a3 (.tup [.int 1, .int 99])) a3 = _ := upd_same
      have sH : Same H (upd (upd (upd (upd H p (.dK [])) a1 (.tup [.int (-999), .int 999])) a2 (.tup [.int (-999), .int 999])) a3 (.tup [.int 1, .int 99])) := (((same_new hp).trans s1).trans s2).trans s3
      clear s1 s2 s3 h1 h2 h3
      revert y0 y1 y2 y3 sH
      generalize upd (upd (upd (upd H p (.dK [])) a1 (.tup [.int (-999), .int 999])) a2 (.tup [.int (-999), .int 999])) a3 (.tup [.int 1, .int 99]) = H3
      intro y0 y1 y2 y3 sH
      refine ⟨y0, TB3 a1 a2 a3, rfl, (by show 3 ≤ 15; decide), ?_⟩
      have n1 : a1 ≠ p := ne_of y1 y0 fun z => nomatch z
      have n2' : a2 ≠ p := ne_of y2 y0 fun z => nomatch z
      have n3 : a3 ≠ p := ne_of y3 y0 fun z => nomatch z
      have sM : Same H (upd H3 p (.dK (mergeK [] (TB3 a1 a2 a3)))) := fun b o e => by rw [upd_ne (ne_of_none e hp)]; exact sH b o e
      have z1 : (upd H3 p (.dK (mergeK [] (TB3 a1 a2 a3)))) a1 = _ := (upd_ne n1).trans y1
      have z2 : (upd H3 p (.dK (mergeK [] (TB3 a1 a2 a3)))) a2 = _ := (upd_ne n2').trans y2
      have z3 : (upd H3 p (.dK (mergeK [] (TB3 a1 a2 a3)))) a3 = _ := (upd_ne n3).trans y3
      have zp : (upd H3 p (.dK (mergeK [] (TB3 a1 a2 a3)))) p = _ := upd_same
      refine ⟨p, rfl, .inl ⟨_, .inl zp⟩, _, rfl, (by show 2 ≤ sizeLine; decide), fun a4 h4 => ?_⟩
      have s4 : Same _ (upd (upd H3 p (.dK (mergeK [] (TB3 a1 a2 a3)))) a4 (.tup [.int 1, .int 999])) := same_new h4
      obtain ⟨a, ea, ha⟩ := tb3 (s4 _ _ z1) (s4 _ _ z2) (s4 _ _ z3) (upd_same : (upd _ a4 _) a4 = _) mz n2
      refine ⟨_, DGet.k (k := Sum.inr z) (s4 _ _ zp), a, _, ea, SqT.of ha, rfl, _, _, rfl, _, _, rfl, rfl, ?_⟩
      have q := q _ (sM.trans s4)
      have hT4 := hT.same (sM.trans s4)
      obtain ⟨t, ty, kt⟩ := Th.int_ (K := K) hT4
      obtain ⟨t', ty', kt'⟩ := Th.bool_ (K := K) hT4
      refine ⟨_, rfl, x, .ty "int", t, .type "int", isInt x, rfl, .ty "int", ty, kt, _, rfl, ?_⟩
      cases hT with
      | int i =>
        refine iteT ⟨_, rfl, .int i, .ty "bool", t', .type "bool", false, rfl, .ty "bool", ty', kt', _, rfl, _, rfl, iteT ?_⟩
        have nb : betw (bnd z) (.int i) = (decide ((bnd z).1 ≤ i) && decide (i ≤ (bnd z).2)) := rfl
        rw [nb] at q
        refine ⟨_, rfl, _, rfl, _, _, rfl, rfl, _, rfl, iteB (fun h3 => ?_) fun h3 => ?_⟩
        · rw [h3] at q
          exact ⟨_, rfl, _, _, rfl, rfl, q⟩
        · rw [h3] at q
          exact q
      | bl b => exact iteT ⟨_, rfl, .bl b, .ty "bool", t', .type "bool", true, rfl, .ty "bool", ty', kt', _, rfl, _, rfl, q⟩
      | _ => exact q
/-! ### things -/
def spThing : Sp := fun vs H Q _ => ∃ (p L : Addr) (ns : List Int) (n : Nat), vs = [.ref p] ∧ Pen H p L ns n ∧ n + 100 < 1000000 ∧ ∀ (v : V) (H' : Hp), Ok1 H' v → Pen H' p L ns (n + 2) → Kp p H H' → Q v H'
theorem ok_thing {f : Addr} {fd : FuncData} (F : FnP K "_law_thing" slaw_thing f fd) (T : Txt K mg) (D_law_draw : Dn P w K mg base 1 "_law_draw" ["pen", "many"] spDraw) : FnOk P w K mg base CX0 2 f fd ["pen"] spThing := by
  refine okN F sclaw_thing (fun vs H Q E h => ?_) (fun cdv A outer s H vs Q E hr h => ?_)
  · obtain ⟨p, L, ns, n, rfl, _⟩ := h
    rfl
  · obtain ⟨p, L, ns, n, rfl, hP, hn, q⟩ := h
    refine ⟨_, (pss_cons (ps_set (i := 1) sclaw_thing.nd rfl (Or.inl rfl) (pe_lst (pa_cons (pe_un un_neg pe_int) (pa_cons (pe_un un_neg pe_int) (pa_cons (pe_un un_neg pe_int) (pa_cons pe_int (pa_cons pe_int (pa_cons pe_int (pa_cons pe_int (pa_cons pe_int (pa_cons pe_int (pa_cons pe_int (pa_cons pe_int (pa_cons (pe_op op_pow pe_int pe_int) (pa_cons (pe_un un_neg (pe_op op_pow pe_int pe_int)) (pa_cons pe_bl (pa_cons pe_bl (pa_cons pe_non (pa_cons pe_str (pa_cons pe_str (pa_cons pe_str pa_nil)))))))))))))))))))))
      (pss_cons (ps_set (i := 1) sclaw_thing.nd rfl (Or.inl rfl) (pe_op op_cat (pv 1) (pe_lst (pa_cons pe_str (pa_cons pe_str (pa_cons pe_str (pa_cons pe_str (pa_cons pe_str (pa_cons pe_str (pa_cons pe_str (pa_cons pe_str (pa_cons (pe_lst (pa_cons pe_int pa_nil)) (pa_cons (pe_tup (pa_cons pe_int pa_nil)) (pa_cons pe_dnewK (pa_cons (pe_tup pa_nil) pa_nil)))))))))))))))
      (pss_cons (ps_set (i := 1) sclaw_thing.nd rfl (Or.inl rfl) (pe_op op_cat (pv 1) (pe_lst (pa_cons pe_str (pa_cons (pe_lst pa_nil) (pa_cons (pe_lst (pa_cons pe_str pa_nil)) pa_nil))))))
      (pss_cons (ps_set (i := 2) sclaw_thing.nd rfl (Or.inl rfl) (pe_op op_add (pe_un un_neg pe_int) (pe_dn D_law_draw (hr.mono (by decide)) rfl (pa_cons (pv 0) (pa_cons pe_int pa_nil)))))
      (pss_one (ps_ret (pe_ix ix_list (pe_op op_cat (pv 1) (pe_lst (pa_cons (pv 2) (pa_cons (pv 2) (pa_cons (pe_op op_mod (pv 2) pe_int) pa_nil))))) (pe_dn D_law_draw (hr.mono (by decide)) rfl (pa_cons (pv 0) (pa_cons (pe_op op_add (pe_callB call_len_seq (by rfl) T.m_len (by decide +kernel) (pa_cons (pv 1) pa_nil)) pe_int) pa_nil))) (fun _ _ => rfl)))))))), ?_⟩
    have hP_0 := hP
    refine ⟨_, rfl, _, rfl, _, rfl, _, _, rfl, rfl, ⟨by decide, by decide, by decide⟩, _, _, rfl, rfl, ⟨by decide, by decide, by decide⟩, _, rfl, (by show 19 ≤ sizeLine; decide), fun l1 hl1 => ?_⟩
    have x_l1 : (upd H l1 (.lst ([V.int (-1000), V.int (-999), V.int (-1), V.int 0, V.int 1, V.int 2, V.int 99, V.int 100, V.int 998, V.int 999, V.int 1000, V.int (10 ^ (60 : Int).toNat), V.int (-(10 ^ (60 : Int).toNat)), V.bl true, V.bl false, V.non, V.str "7", V.str "", V.str "a"]))) l1 = some (.lst ([V.int (-1000), V.int (-999), V.int (-1), V.int 0, V.int 1, V.int 2, V.int 99, V.int 100, V.int 998, V.int 999, V.int 1000, V.int (10 ^ (60 : Int).toNat), V.int (-(10 ^ (60 : Int).toNat)), V.bl true, V.bl false, V.non, V.str "7", V.str "", V.str "a"])) := upd_same
    have s_l1 : Same H (upd H l1 (.lst ([V.int (-1000), V.int (-999), V.int (-1), V.int 0, V.int 1, V.int 2, V.int 99, V.int 100, V.int 998, V.int 999, V.int 1000, V.int (10 ^ (60 : Int).toNat), V.int (-(10 ^ (60 : Int).toNat)), V.bl true, V.bl false, V.non, V.str "7", V.str "", V.str "a"]))) := same_new hl1
    have hP_l1 : Pen (upd H l1 (.lst ([V.int (-1000), V.int (-999), V.int (-1), V.int 0, V.int 1, V.int 2, V.int 99, V.int 100, V.int 998, V.int 999, V.int 1000, V.int (10 ^ (60 : Int).toNat), V.int (-(10 ^ (60 : Int).toNat)), V.bl true, V.bl false, V.non, V.str "7", V.str "", V.str "a"]))) p L ns n := hP_0.new hl1
    have n_l1 : l1 ≠ p := hP_0.lt_new hl1
    revert x_l1 s_l1 hP_l1
    generalize upd H l1 (.lst ([V.int (-1000), V.int (-999), V.int (-1), V.int 0, V.int 1, V.int 2, V.int 99, V.int 100, V.int 998, V.int 999, V.int 1000, V.int (10 ^ (60 : Int).toNat), V.int (-(10 ^ (60 : Int).toNat)), V.bl true, V.bl false, V.non, V.str "7", V.str "", V.str "a"])) = H_l1
    intro x_l1 s_l1 hP_l1
    refine ⟨_, rfl, (by show 1 ≤ sizeLine; decide), fun m1 hm1 => ?_⟩
    have x_m1 : (upd H_l1 m1 (.lst ([V.int 1]))) m1 = some (.lst ([V.int 1])) := upd_same
    have s_m1 : Same H_l1 (upd H_l1 m1 (.lst ([V.int 1]))) := same_new hm1
    have hP_m1 : Pen (upd H_l1 m1 (.lst ([V.int 1]))) p L ns n := hP_l1.new hm1
    have n_m1 : m1 ≠ p := hP_l1.lt_new hm1
    revert x_m1 s_m1 hP_m1
    generalize upd H_l1 m1 (.lst ([V.int 1])) = H_m1
    intro x_m1 s_m1 hP_m1
    refine ⟨(by show 1 ≤ sizeLine; decide), fun m2 hm2 => ?_⟩
    have x_m2 : (upd H_m1 m2 (.tup ([V.int 1]))) m2 = some (.tup ([V.int 1])) := upd_same
    have s_m2 : Same H_m1 (upd H_m1 m2 (.tup ([V.int 1]))) := same_new hm2
    have hP_m2 : Pen (upd H_m1 m2 (.tup ([V.int 1]))) p L ns n := hP_m1.new hm2
    have n_m2 : m2 ≠ p := hP_m1.lt_new hm2
    revert x_m2 s_m2 hP_m2
    generalize upd H_m1 m2 (.tup ([V.int 1])) = H_m2
    intro x_m2 s_m2 hP_m2
    intro m3 hm3
    have x_m3 : (upd H_m2 m3 (.dK ([]))) m3 = some (.dK ([])) := upd_same
    have s_m3 : Same H_m2 (upd H_m2 m3 (.dK ([]))) := same_new hm3
    have hP_m3 : Pen (upd H_m2 m3 (.dK ([]))) p L ns n := hP_m2.new hm3
    have n_m3 : m3 ≠ p := hP_m2.lt_new hm3
    revert x_m3 s_m3 hP_m3
    generalize upd H_m2 m3 (.dK ([])) = H_m3
    intro x_m3 s_m3 hP_m3
    refine ⟨(by show 0 ≤ sizeLine; decide), fun m4 hm4 => ?_⟩
    have x_m4 : (upd H_m3 m4 (.tup ([]))) m4 = some (.tup ([])) := upd_same
    have s_m4 : Same H_m3 (upd H_m3 m4 (.tup ([]))) := same_new hm4
    have hP_m4 : Pen (upd H_m3 m4 (.tup ([]))) p L ns n := hP_m3.new hm4
    have n_m4 : m4 ≠ p := hP_m3.lt_new hm4
    revert x_m4 s_m4 hP_m4
    generalize upd H_m3 m4 (.tup ([])) = H_m4
    intro x_m4 s_m4 hP_m4
    refine ⟨(by show 12 ≤ sizeLine; decide), fun l2 hl2 => ?_⟩
    have x_l2 : (upd H_m4 l2 (.lst ([V.str "abcdefgh", V.str "abcdefgh9", V.str "8a", V.str "A", V.str "a b", V.str "a-", V.str "z~", V.str "plain", V.ref m1, V.ref m2, V.ref m3, V.ref m4]))) l2 = some (.lst ([V.str "abcdefgh", V.str "abcdefgh9", V.str "8a", V.str "A", V.str "a b", V.str "a-", V.str "z~", V.str "plain", V.ref m1, V.ref m2, V.ref m3, V.ref m4])) := upd_same
    have s_l2 : Same H_m4 (upd H_m4 l2 (.lst ([V.str "abcdefgh", V.str "abcdefgh9", V.str "8a", V.str "A", V.str "a b", V.str "a-", V.str "z~", V.str "plain", V.ref m1, V.ref m2, V.ref m3, V.ref m4]))) := same_new hl2
    have hP_l2 : Pen (upd H_m4 l2 (.lst ([V.str "abcdefgh", V.str "abcdefgh9", V.str "8a", V.str "A", V.str "a b", V.str "a-", V.str "z~", V.str "plain", V.ref m1, V.ref m2, V.ref m3, V.ref m4]))) p L ns n := hP_m4.new hl2
    have n_l2 : l2 ≠ p := hP_m4.lt_new hl2
    revert x_l2 s_l2 hP_l2
    generalize upd H_m4 l2 (.lst ([V.str "abcdefgh", V.str "abcdefgh9", V.str "8a", V.str "A", V.str "a b", V.str "a-", V.str "z~", V.str "plain", V.ref m1, V.ref m2, V.ref m3, V.ref m4])) = H_l2
    intro x_l2 s_l2 hP_l2
    refine ⟨l1, l2, _, _, rfl, rfl, (s_l2 _ _ (s_m4 _ _ (s_m3 _ _ (s_m2 _ _ (s_m1 _ _ x_l1))))), x_l2, (by show 19 + 12 ≤ sizeLine; decide), fun c1 hc1 => ?_⟩
    have x_c1 : (upd H_l2 c1 (.lst ([V.int (-1000), V.int (-999), V.int (-1), V.int 0, V.int 1, V.int 2, V.int 99, V.int 100, V.int 998, V.int 999, V.int 1000, V.int (10 ^ (60 : Int).toNat), V.int (-(10 ^ (60 : Int).toNat)), V.bl true, V.bl false, V.non, V.str "7", V.str "", V.str "a"] ++ [V.str "abcdefgh", V.str "abcdefgh9", V.str "8a", V.str "A", V.str "a b", V.str "a-", V.str "z~", V.str "plain", V.ref m1, V.ref m2, V.ref m3, V.ref m4]))) c1 = some (.lst ([V.int (-1000), V.int (-999), V.int (-1), V.int 0, V.int 1, V.int 2, V.int 99, V.int 100, V.int 998, V.int 999, V.int 1000, V.int (10 ^ (60 : Int).toNat), V.int (-(10 ^ (60 : Int).toNat)), V.bl true, V.bl false, V.non, V.str "7", V.str "", V.str "a"] ++ [V.str "abcdefgh", V.str "abcdefgh9", V.str "8a", V.str "A", V.str "a b", V.str "a-", V.str "z~", V.str "plain", V.ref m1, V.ref m2, V.ref m3, V.ref m4])) := upd_same
    have s_c1 : Same H_l2 (upd H_l2 c1 (.lst ([V.int (-1000), V.int (-999), V.int (-1), V.int 0, V.int 1, V.int 2, V.int 99, V.int 100, V.int 998, V.int 999, V.int 1000, V.int (10 ^ (60 : Int).toNat), V.int (-(10 ^ (60 : Int).toNat)), V.bl true, V.bl false, V.non, V.str "7", V.str "", V.str "a"] ++ [V.str "abcdefgh", V.str "abcdefgh9", V.str "8a", V.str "A", V.str "a b", V.str "a-", V.str "z~", V.str "plain", V.ref m1, V.ref m2, V.ref m3, V.ref m4]))) := same_new hc1
    have hP_c1 : Pen (upd H_l2 c1 (.lst ([V.int (-1000), V.int (-999), V.int (-1), V.int 0, V.int 1, V.int 2, V.int 99, V.int 100, V.int 998, V.int 999, V.int 1000, V.int (10 ^ (60 : Int).toNat), V.int (-(10 ^ (60 : Int).toNat)), V.bl true, V.bl false, V.non, V.str "7", V.str "", V.str "a"] ++ [V.str "abcdefgh", V.str "abcdefgh9", V.str "8a", V.str "A", V.str "a b", V.str "a-", V.str "z~", V.str "plain", V.ref m1, V.ref m2, V.ref m3, V.ref m4]))) p L ns n := hP_l2.new hc1
    have n_c1 : c1 ≠ p := hP_l2.lt_new hc1
    revert x_c1 s_c1 hP_c1
    generalize upd H_l2 c1 (.lst ([V.int (-1000), V.int (-999), V.int (-1), V.int 0, V.int 1, V.int 2, V.int 99, V.int 100, V.int 998, V.int 999, V.int 1000, V.int (10 ^ (60 : Int).toNat), V.int (-(10 ^ (60 : Int).toNat)), V.bl true, V.bl false, V.non, V.str "7", V.str "", V.str "a"] ++ [V.str "abcdefgh", V.str "abcdefgh9", V.str "8a", V.str "A", V.str "a b", V.str "a-", V.str "z~", V.str "plain", V.ref m1, V.ref m2, V.ref m3, V.ref m4])) = H_c1
    intro x_c1 s_c1 hP_c1
    refine ⟨_, rfl, (by show 0 ≤ sizeLine; decide), fun m5 hm5 => ?_⟩
    have x_m5 : (upd H_c1 m5 (.lst ([]))) m5 = some (.lst ([])) := upd_same
    have s_m5 : Same H_c1 (upd H_c1 m5 (.lst ([]))) := same_new hm5
    have hP_m5 : Pen (upd H_c1 m5 (.lst ([]))) p L ns n := hP_c1.new hm5
    have n_m5 : m5 ≠ p := hP_c1.lt_new hm5
    revert x_m5 s_m5 hP_m5
    generalize upd H_c1 m5 (.lst ([])) = H_m5
    intro x_m5 s_m5 hP_m5
    refine ⟨(by show 1 ≤ sizeLine; decide), fun m6 hm6 => ?_⟩
    have x_m6 : (upd H_m5 m6 (.lst ([V.str "a"]))) m6 = some (.lst ([V.str "a"])) := upd_same
    have s_m6 : Same H_m5 (upd H_m5 m6 (.lst ([V.str "a"]))) := same_new hm6
    have hP_m6 : Pen (upd H_m5 m6 (.lst ([V.str "a"]))) p L ns n := hP_m5.new hm6
    have n_m6 : m6 ≠ p := hP_m5.lt_new hm6
    revert x_m6 s_m6 hP_m6
    generalize upd H_m5 m6 (.lst ([V.str "a"])) = H_m6
    intro x_m6 s_m6 hP_m6
    refine ⟨(by show 3 ≤ sizeLine; decide), fun l3 hl3 => ?_⟩
    have x_l3 : (upd H_m6 l3 (.lst ([V.str "a\n", V.ref m5, V.ref m6]))) l3 = some (.lst ([V.str "a\n", V.ref m5, V.ref m6])) := upd_same
    have s_l3 : Same H_m6 (upd H_m6 l3 (.lst ([V.str "a\n", V.ref m5, V.ref m6]))) := same_new hl3
    have hP_l3 : Pen (upd H_m6 l3 (.lst ([V.str "a\n", V.ref m5, V.ref m6]))) p L ns n := hP_m6.new hl3
    have n_l3 : l3 ≠ p := hP_m6.lt_new hl3
    revert x_l3 s_l3 hP_l3
    generalize upd H_m6 l3 (.lst ([V.str "a\n", V.ref m5, V.ref m6])) = H_l3
    intro x_l3 s_l3 hP_l3
    refine ⟨c1, l3, _, _, rfl, rfl, (s_l3 _ _ (s_m6 _ _ (s_m5 _ _ x_c1))), x_l3, (by show 31 + 3 ≤ sizeLine; decide), fun c2 hc2 => ?_⟩
    have x_c2 : (upd H_l3 c2 (.lst ([V.int (-1000), V.int (-999), V.int (-1), V.int 0, V.int 1, V.int 2, V.int 99, V.int 100, V.int 998, V.int 999, V.int 1000, V.int (10 ^ (60 : Int).toNat), V.int (-(10 ^ (60 : Int).toNat)), V.bl true, V.bl false, V.non, V.str "7", V.str "", V.str "a"] ++ [V.str "abcdefgh", V.str "abcdefgh9", V.str "8a", V.str "A", V.str "a b", V.str "a-", V.str "z~", V.str "plain", V.ref m1, V.ref m2, V.ref m3, V.ref m4] ++ [V.str "a\n", V.ref m5, V.ref m6]))) c2 = some (.lst ([V.int (-1000), V.int (-999), V.int (-1), V.int 0, V.int 1, V.int 2, V.int 99, V.int 100, V.int 998, V.int 999, V.int 1000, V.int (10 ^ (60 : Int).toNat), V.int (-(10 ^ (60 : Int).toNat)), V.bl true, V.bl false, V.non, V.str "7", V.str "", V.str "a"] ++ [V.str "abcdefgh", V.str "abcdefgh9", V.str "8a", V.str "A", V.str "a b", V.str "a-", V.str "z~", V.str "plain", V.ref m1, V.ref m2, V.ref m3, V.ref m4] ++ [V.str "a\n", V.ref m5, V.ref m6])) := upd_same
    have s_c2 : Same H_l3 (upd H_l3 c2 (.lst ([V.int (-1000), V.int (-999), V.int (-1), V.int 0, V.int 1, V.int 2, V.int 99, V.int 100, V.int 998, V.int 999, V.int 1000, V.int (10 ^ (60 : Int).toNat), V.int (-(10 ^ (60 : Int).toNat)), V.bl true, V.bl false, V.non, V.str "7", V.str "", V.str "a"] ++ [V.str "abcdefgh", V.str "abcdefgh9", V.str "8a", V.str "A", V.str "a b", V.str "a-", V.str "z~", V.str "plain", V.ref m1, V.ref m2, V.ref m3, V.ref m4] ++ [V.str "a\n", V.ref m5, V.ref m6]))) := same_new hc2
    have hP_c2 : Pen (upd H_l3 c2 (.lst ([V.int (-1000), V.int (-999), V.int (-1), V.int 0, V.int 1, V.int 2, V.int 99, V.int 100, V.int 998, V.int 999, V.int 1000, V.int (10 ^ (60 : Int).toNat), V.int (-(10 ^ (60 : Int).toNat)), V.bl true, V.bl false, V.non, V.str "7", V.str "", V.str "a"] ++ [V.str "abcdefgh", V.str "abcdefgh9", V.str "8a", V.str "A", V.str "a b", V.str "a-", V.str "z~", V.str "plain", V.ref m1, V.ref m2, V.ref m3, V.ref m4] ++ [V.str "a\n", V.ref m5, V.ref m6]))) p L ns n := hP_l3.new hc2
    have n_c2 : c2 ≠ p := hP_l3.lt_new hc2
    revert x_c2 s_c2 hP_c2
    generalize upd H_l3 c2 (.lst ([V.int (-1000), V.int (-999), V.int (-1), V.int 0, V.int 1, V.int 2, V.int 99, V.int 100, V.int 998, V.int 999, V.int 1000, V.int (10 ^ (60 : Int).toNat), V.int (-(10 ^ (60 : Int).toNat)), V.bl true, V.bl false, V.non, V.str "7", V.str "", V.str "a"] ++ [V.str "abcdefgh", V.str "abcdefgh9", V.str "8a", V.str "A", V.str "a b", V.str "a-", V.str "z~", V.str "plain", V.ref m1, V.ref m2, V.ref m3, V.ref m4] ++ [V.str "a\n", V.ref m5, V.ref m6])) = H_c2
    intro x_c2 s_c2 hP_c2
    refine ⟨_, rfl, _, rfl, p, L, ns, n, 2200, rfl, hP_c2, (by decide), (by decide), (by omega), fun k1 H1 k10 k11 hP_k b1 => ?_⟩
    have x_k : H1 c2 = some (.lst ([V.int (-1000), V.int (-999), V.int (-1), V.int 0, V.int 1, V.int 2, V.int 99, V.int 100, V.int 998, V.int 999, V.int 1000, V.int (10 ^ (60 : Int).toNat), V.int (-(10 ^ (60 : Int).toNat)), V.bl true, V.bl false, V.non, V.str "7", V.str "", V.str "a"] ++ [V.str "abcdefgh", V.str "abcdefgh9", V.str "8a", V.str "A", V.str "a b", V.str "a-", V.str "z~", V.str "plain", V.ref m1, V.ref m2, V.ref m3, V.ref m4] ++ [V.str "a\n", V.ref m5, V.ref m6])) := (b1 c2 n_c2).trans x_c2
    refine ⟨_, _, rfl, rfl, ?_⟩
    refine ⟨_, rfl, _, rfl, _, rfl, _, rfl, _, _, rfl, rfl, (by show (0 : Int) < 110; decide), (by show 3 ≤ sizeLine; decide), fun l4 hl4 => ?_⟩
    have x_l4 : (upd H1 l4 (.lst ([V.int (-1100 + k1), V.int (-1100 + k1), V.int ((-1100 + k1) % 110)]))) l4 = some (.lst ([V.int (-1100 + k1), V.int (-1100 + k1), V.int ((-1100 + k1) % 110)])) := upd_same
    have s_l4 : Same H1 (upd H1 l4 (.lst ([V.int (-1100 + k1), V.int (-1100 + k1), V.int ((-1100 + k1) % 110)]))) := same_new hl4
    have hP_l4 : Pen (upd H1 l4 (.lst ([V.int (-1100 + k1), V.int (-1100 + k1), V.int ((-1100 + k1) % 110)]))) p L ns (n + 1) := hP_k.new hl4
    have n_l4 : l4 ≠ p := hP_k.lt_new hl4
    revert x_l4 s_l4 hP_l4
    generalize upd H1 l4 (.lst ([V.int (-1100 + k1), V.int (-1100 + k1), V.int ((-1100 + k1) % 110)])) = H_l4
    intro x_l4 s_l4 hP_l4
    refine ⟨c2, l4, _, _, rfl, rfl, (s_l4 _ _ x_k), x_l4, (by show 34 + 3 ≤ sizeLine; decide), fun c3 hc3 => ?_⟩
    have x_c3 : (upd H_l4 c3 (.lst ([V.int (-1000), V.int (-999), V.int (-1), V.int 0, V.int 1, V.int 2, V.int 99, V.int 100, V.int 998, V.int 999, V.int 1000, V.int (10 ^ (60 : Int).toNat), V.int (-(10 ^ (60 : Int).toNat)), V.bl true, V.bl false, V.non, V.str "7", V.str "", V.str "a"] ++ [V.str "abcdefgh", V.str "abcdefgh9", V.str "8a", V.str "A", V.str "a b", V.str "a-", V.str "z~", V.str "plain", V.ref m1, V.ref m2, V.ref m3, V.ref m4] ++ [V.str "a\n", V.ref m5, V.ref m6] ++ [V.int (-1100 + k1), V.int (-1100 + k1), V.int ((-1100 + k1) % 110)]))) c3 = some (.lst ([V.int (-1000), V.int (-999), V.int (-1), V.int 0, V.int 1, V.int 2, V.int 99, V.int 100, V.int 998, V.int 999, V.int 1000, V.int (10 ^ (60 : Int).toNat), V.int (-(10 ^ (60 : Int).toNat)), V.bl true, V.bl false, V.non, V.str "7", V.str "", V.str "a"] ++ [V.str "abcdefgh", V.str "abcdefgh9", V.str "8a", V.str "A", V.str "a b", V.str "a-", V.str "z~", V.str "plain", V.ref m1, V.ref m2, V.ref m3, V.ref m4] ++ [V.str "a\n", V.ref m5, V.ref m6] ++ [V.int (-1100 + k1), V.int (-1100 + k1), V.int ((-1100 + k1) % 110)])) := upd_same
    have s_c3 : Same H_l4 (upd H_l4 c3 (.lst ([V.int (-1000), V.int (-999), V.int (-1), V.int 0, V.int 1, V.int 2, V.int 99, V.int 100, V.int 998, V.int 999, V.int 1000, V.int (10 ^ (60 : Int).toNat), V.int (-(10 ^ (60 : Int).toNat)), V.bl true, V.bl false, V.non, V.str "7", V.str "", V.str "a"] ++ [V.str "abcdefgh", V.str "abcdefgh9", V.str "8a", V.str "A", V.str "a b", V.str "a-", V.str "z~", V.str "plain", V.ref m1, V.ref m2, V.ref m3, V.ref m4] ++ [V.str "a\n", V.ref m5, V.ref m6] ++ [V.int (-1100 + k1), V.int (-1100 + k1), V.int ((-1100 + k1) % 110)]))) := same_new hc3
    have hP_c3 : Pen (upd H_l4 c3 (.lst ([V.int (-1000), V.int (-999), V.int (-1), V.int 0, V.int 1, V.int 2, V.int 99, V.int 100, V.int 998, V.int 999, V.int 1000, V.int (10 ^ (60 : Int).toNat), V.int (-(10 ^ (60 : Int).toNat)), V.bl true, V.bl false, V.non, V.str "7", V.str "", V.str "a"] ++ [V.str "abcdefgh", V.str "abcdefgh9", V.str "8a", V.str "A", V.str "a b", V.str "a-", V.str "z~", V.str "plain", V.ref m1, V.ref m2, V.ref m3, V.ref m4] ++ [V.str "a\n", V.ref m5, V.ref m6] ++ [V.int (-1100 + k1), V.int (-1100 + k1), V.int ((-1100 + k1) % 110)]))) p L ns (n + 1) := hP_l4.new hc3
    have n_c3 : c3 ≠ p := hP_l4.lt_new hc3
    revert x_c3 s_c3 hP_c3
    generalize upd H_l4 c3 (.lst ([V.int (-1000), V.int (-999), V.int (-1), V.int 0, V.int 1, V.int 2, V.int 99, V.int 100, V.int 998, V.int 999, V.int 1000, V.int (10 ^ (60 : Int).toNat), V.int (-(10 ^ (60 : Int).toNat)), V.bl true, V.bl false, V.non, V.str "7", V.str "", V.str "a"] ++ [V.str "abcdefgh", V.str "abcdefgh9", V.str "8a", V.str "A", V.str "a b", V.str "a-", V.str "z~", V.str "plain", V.ref m1, V.ref m2, V.ref m3, V.ref m4] ++ [V.str "a\n", V.ref m5, V.ref m6] ++ [V.int (-1100 + k1), V.int (-1100 + k1), V.int ((-1100 + k1) % 110)])) = H_c3
    intro x_c3 s_c3 hP_c3
    refine ⟨_, rfl, _, rfl, c2, _, rfl, .inl (SqL.of (s_c3 _ _ (s_l4 _ _ x_k))), _, _, rfl, rfl, p, L, ns, n + 1, 37, rfl, hP_c3, (by decide), (by decide), (by omega), fun k2 H2 k20 k21 hP2 b2 => ?_⟩
    have x_3 : H2 c3 = _ := (b2 c3 n_c3).trans x_c3
    have kk : Kp p H_c2 H2 := ((b1.kp.trans (sameKp s_l4)).trans (sameKp s_c3)).trans b2.kp
    have f6 := kk _ _ (s_c2 _ _ (s_l3 _ _ x_m6)) n_m6
    have f5 := kk _ _ (s_c2 _ _ (s_l3 _ _ (s_m6 _ _ x_m5))) n_m5
    have kj : Kp p H_l2 H2 := (sameKp ((((s_c1.trans s_m5).trans s_m6).trans s_l3).trans s_c2)).trans kk
    have f4 := kj _ _ (s_l2 _ _ x_m4) n_m4
    have f3 := kj _ _ (s_l2 _ _ (s_m4 _ _ x_m3)) n_m3
    have f2 := kj _ _ (s_l2 _ _ (s_m4 _ _ (s_m3 _ _ x_m2))) n_m2
    have f1 := kj _ _ (s_l2 _ _ (s_m4 _ _ (s_m3 _ _ (s_m2 _ _ x_m1)))) n_m1
    have kf : Kp p H H2 := (sameKp (((((s_l1.trans s_m1).trans s_m2).trans s_m3).trans s_m4).trans s_l2)).trans kj
    obtain ⟨v, e2, hv⟩ := listAt (xs := [V.int (-1000), V.int (-999), V.int (-1), V.int 0, V.int 1, V.int 2, V.int 99, V.int 100, V.int 998, V.int 999, V.int 1000, V.int (10 ^ (60 : Int).toNat), V.int (-(10 ^ (60 : Int).toNat)), V.bl true, V.bl false, V.non, V.str "7", V.str "", V.str "a"] ++ [V.str "abcdefgh", V.str "abcdefgh9", V.str "8a", V.str "A", V.str "a b", V.str "a-", V.str "z~", V.str "plain", V.ref m1, V.ref m2, V.ref m3, V.ref m4] ++ [V.str "a\n", V.ref m5, V.ref m6] ++ [V.int (-1100 + k1), V.int (-1100 + k1), V.int ((-1100 + k1) % 110)]) k20 k21
    refine ⟨c3, _, _, v, rfl, rfl, SqL.of x_3, e2, ?_⟩
    refine q v H2 ?_ hP2 kf
    rcases List.mem_append.mp hv with hv | hv
    · rcases List.mem_append.mp hv with hv | hv
      · rcases List.mem_append.mp hv with hv | hv
        · simp only [List.mem_cons, List.not_mem_nil, or_false] at hv
          rcases hv with rfl | rfl | rfl | rfl | rfl | rfl | rfl | rfl | rfl | rfl | rfl | rfl | rfl | rfl | rfl | rfl | rfl | rfl | rfl <;> first | exact ⟨.int _, fun _ e => nomatch e⟩ | exact ⟨.bl _, fun _ e => nomatch e⟩ | exact ⟨.non, fun _ e => nomatch e⟩ | exact ok_str (by decide +kernel) | exact ok_ref (.lst (by assumption)) | exact ok_ref (.tup (by assumption)) | exact ok_ref (.dK (by assumption))
        · simp only [List.mem_cons, List.not_mem_nil, or_false] at hv
          rcases hv with rfl | rfl | rfl | rfl | rfl | rfl | rfl | rfl | rfl | rfl | rfl | rfl <;> first | exact ⟨.int _, fun _ e => nomatch e⟩ | exact ⟨.bl _, fun _ e => nomatch e⟩ | exact ⟨.non, fun _ e => nomatch e⟩ | exact ok_str (by decide +kernel) | exact ok_ref (.lst (by assumption)) | exact ok_ref (.tup (by assumption)) | exact ok_ref (.dK (by assumption))
      · simp only [List.mem_cons, List.not_mem_nil, or_false] at hv
        rcases hv with rfl | rfl | rfl <;> first | exact ⟨.int _, fun _ e => nomatch e⟩ | exact ⟨.bl _, fun _ e => nomatch e⟩ | exact ⟨.non, fun _ e => nomatch e⟩ | exact ok_str (by decide +kernel) | exact ok_ref (.lst (by assumption)) | exact ok_ref (.tup (by assumption)) | exact ok_ref (.dK (by assumption))
    · simp only [List.mem_cons, List.not_mem_nil, or_false] at hv
      rcases hv with rfl | rfl | rfl <;> first | exact ⟨.int _, fun _ e => nomatch e⟩ | exact ⟨.bl _, fun _ e => nomatch e⟩ | exact ⟨.non, fun _ e => nomatch e⟩ | exact ok_str (by decide +kernel) | exact ok_ref (.lst (by assumption)) | exact ok_ref (.tup (by assumption)) | exact ok_ref (.dK (by assumption))

/-! ### what is refused -/
def spRefused (K : PySem.W.Frag) (P' : Addr) : Sp := fun vs H Q _ => ∃ (v x : V), vs = [v, x] ∧ Ok1 H v ∧ Ok1 H x ∧ TabG H P' ∧ traitV v = false ∧ ∀ H2, Same H H2 → Q (.bl true) H2
theorem ok_refused {f : Addr} {fd : FuncData} {P' : Addr} (F : FnP K "_law_refused" slaw_refused f fd) (T : Txt K mg) (N : NT K mg) (D_is_worth : DnS P w K mg base 3 "is_worth" ["trait", "thing"] (spWorth K P')) (D_law_word : Dn P w K mg base 1 "_law_word" ["e"] (spWord K)) :
    FnOk P w K mg base CX0 4 f fd ["trait", "thing"] (spRefused K P') := by
  refine okN F sclaw_refused (fun vs H Q E h => ?_) (fun cdv A outer s H vs Q E hr h => ?_)
  · obtain ⟨v, x, rfl, _⟩ := h
    rfl
  · obtain ⟨v, x, rfl, hv, hx, hG, hno, q⟩ := h
    refine ⟨_, (pss_cons (ps_set (i := 2) sclaw_refused.nd rfl (Or.inl rfl) pe_non)
      (pss_cons (ps_try_hold (i := 3) (tb := fun W => tDrop (tCallS (spWorth K P') (WE W) (tCons (tVar 0) (tCons (tVar 1) tNil)))) (ts := fun a cls d => tAsg (tVar 3) (gName 2)) (Wout := fun _ _ _ _ => False) rfl rfl rfl sclaw_refused.nd rfl rfl ⟨rfl, by decide, .inl N.d⟩ LamX.takes0 (fun W pn xe tk _ => pss_one (ps_expr (pe_dnS D_is_worth (hr.mono (by decide)) rfl (fun σ => passAt tk σ) (pa_cons (pv 0) (pa_cons (pv 1) pa_nil))))) (fun a oe cls d pn hz hf => pss_one (ps_set (i := 2) sclaw_refused.nd rfl (Or.inl rfl) (pv 3))))
      (pss_one (ps_ret (pe_cmpR op_eq (pe_dn D_law_word (hr.mono (by decide)) rfl (pa_cons (pv 2) pa_nil)) pe_str (nomark _)))))), ?_⟩
    refine ⟨_, rfl, _, rfl, v, x, rfl, hv, hx, hG, fun _ => ?_, fun z ez mz => ?_⟩
    · refine ⟨true, N.e, fun _ a ha => ?_, fun z => nomatch z⟩
      refine ⟨_, rfl, _, rfl, a, rfl, upd_same, fun H' s' => ⟨rfl, ?_⟩⟩
      exact q H' ((same_new ha).trans s')
    · rw [ez, trait_true mz] at hno
      cases hno
/-! ### the law -/
theorem isTup {H : Hp} {a : Addr} {xs : List V} (e : SqT K H a xs) : ∃ t, TyX K H (.ref a) t ∧ PySem.W.kitOne K t (.type "tuple") = some true := by
  rcases e with (e | ⟨o, e⟩) | ⟨o, its, n, e, c, _⟩
  · exact ⟨_, .base (.tup e), kit_ty (r := true) (by decide +kernel)⟩
  · exact ⟨_, .fTuple e, kit_ty (r := true) (by decide +kernel)⟩
  · exact ⟨_, .kTuple e c, kit_ty (r := true) (by decide +kernel)⟩
theorem trait_s {z : Str} (h : z ∈ TRS) : traitV (.str (z ++ "s")) = false ∧ traitV (.str (cutS z (some 1) none)) = false ∧ (z ++ "s").length ≤ 10 ∧ z.length ≤ 10 := by
  simp only [TRS, List.mem_cons, List.not_mem_nil, or_false] at h
  rcases h with rfl | rfl | rfl | rfl | rfl | rfl <;> decide +kernel
theorem dp_TR {H : Hp} {l : Addr} (e : H l = some (.lst TR)) : Dp K H (.ref l) (.list (TRS.map .str)) := .lst (SqL.of e) (.cons (.str _) (.cons (.str _) (.cons (.str _) (.cons (.str _) (.cons (.str _) (.cons (.str _) .nil))))))
theorem th_kp {H H' : Hp} {p L : Addr} {ns : List Int} {n m : Nat} {x : V} (hP : Pen H p L ns n) (hP' : Pen H' p L ns m) (h : Ok1 H x) (k : Kp p H H') : Ok1 H' x := by
  refine ⟨?_, h.2⟩
  obtain ⟨a, r, hp, _⟩ := hP.at_
  have h1 := h.1
  cases h1 with
  | non => exact .non
  | bl b => exact .bl b
  | int i => exact .int i
  | str z => exact .str z
  | @lst a xs e =>
    by_cases ea : a = p
    · obtain ⟨a', r', hp', _⟩ := hP'.at_
      rw [ea]
      exact .lst hp'
    · exact .lst (k _ _ e ea)
  | tup e => exact .tup (k _ _ e (ne_of e hp fun q => nomatch q))
  | dK e => exact .dK (k _ _ e (ne_of e hp fun q => nomatch q))
def spLaw (K : PySem.W.Frag) (P' : Addr) : Sp := fun vs H Q _ => ∃ (a : Addr) (ns : List Int), vs = [.ref a] ∧ SqL K H a (ns.map V.int) ∧ ns.length ≤ 63 ∧ TabG H P' ∧ ∀ H', Q (.bl true) H'
theorem ok_law {f : Addr} {fd : FuncData} {P' : Addr} (F : FnP K "law" slaw f fd) (T : Txt K mg) (gT : mg "TRAITS" = some (.ref (He.ga K "TRAITS"))) (tT : ∀ H, SqT K H (He.ga K "TRAITS") TR)
    (D_law_pen : Dn P w K mg base 1 "_law_pen" ["script"] (spPen K)) (D_law_draw : Dn P w K mg base 1 "_law_draw" ["pen", "many"] spDraw) (D_law_thing : Dn P w K mg base 2 "_law_thing" ["pen"] spThing)
    (D_law_is : Dn P w K mg base 1 "_law_is" ["trait", "thing"] spIsW) (D_is_worth : DnS P w K mg base 3 "is_worth" ["trait", "thing"] (spWorth K P')) (D_law_refused : Dn P w K mg base 4 "_law_refused" ["trait", "thing"] (spRefused K P')) : FnOk P w K mg base CX0 5 f fd ["script"] (spLaw K P') := by
  refine okN F sclaw (fun vs H Q E h => ?_) (fun cdv A outer s H vs Q E hr h => ?_)
  · obtain ⟨a, ns, rfl, _⟩ := h
    rfl
  · obtain ⟨a, ns, rfl, hS, hl, hG, q⟩ := h
    refine ⟨_, (pss_cons (ps_set (i := 1) sclaw.nd rfl (Or.inl rfl) (pe_dn D_law_pen (hr.mono (by decide)) rfl (pa_cons (pv 0) pa_nil)))
      (pss_cons (ps_set (i := 2) sclaw.nd rfl (Or.inl rfl) (pe_lst (pa_cons pe_str (pa_cons pe_str (pa_cons pe_str (pa_cons pe_str (pa_cons pe_str (pa_cons pe_str pa_nil))))))))
      (pss_cons (ps_if (PW.pt (pw_or (pt_not (pt_val (pe_callB call_isi (by rfl) T.m_isinstance (by decide +kernel) (pa_cons (pe_glob (v := .ref (He.ga K "TRAITS")) rfl gT rfl) (pa_cons (pe_bltn (v := .ty "tuple") (u := .type "tuple") rfl T.m_tuple (by decide +kernel) rfl) pa_nil))))) (pw_or1 (pt_cmpR (op_neD hr.units) (pe_callTy call_list_of (by rfl) T.m_list (by decide +kernel) (pa_cons (pe_glob (v := .ref (He.ga K "TRAITS")) rfl gT rfl) pa_nil)) (pv 2) (nomark _))))) (pss_one (ps_ret pe_bl)) pss_nil)
      (pss_cons (ps_for PassesOwn.never rfl (pi_range1 rfl T.m_range (pa_cons (pe_op op_add pe_int (pe_dn D_law_draw (hr.mono (by decide)) rfl (pa_cons (pv 1) (pa_cons pe_int pa_nil)))) pa_nil)) (pg_name (i := 3) sclaw.nd rfl (Or.inl rfl)) (pss_cons (ps_par (i := 4) (j := 5) (by rfl) sclaw.nd rfl rfl (by decide) rfl rfl (pa_cons (pe_ix ix_list (pv 2) (pe_dn D_law_draw (hr.mono (by decide)) rfl (pa_cons (pv 1) (pa_cons pe_int pa_nil))) (fun _ _ => rfl)) (pa_cons (pe_dn D_law_thing (hr.mono (by decide)) rfl (pa_cons (pv 1) pa_nil)) pa_nil)) (by rfl))
      (pss_cons (ps_set (i := 6) sclaw.nd rfl (Or.inl rfl) (pe_dnS D_is_worth (hr.mono (by decide)) rfl (fun σ => passAt LamX.takes0 σ) (pa_cons (pv 4) (pa_cons (pv 5) pa_nil))))
      (pss_cons (ps_if (PW.pt (pw_or (pt_not (pt_val (pe_callB call_isi (by rfl) T.m_isinstance (by decide +kernel) (pa_cons (pv 6) (pa_cons (pe_bltn (v := .ty "bool") (u := .type "bool") rfl T.m_bool (by decide +kernel) rfl) pa_nil))))) (pw_or1 (pt_cmpR op_ne (pv 6) (pe_dn D_law_is (hr.mono (by decide)) rfl (pa_cons (pv 4) (pa_cons (pv 5) pa_nil))) (nomark _))))) (pss_one (ps_ret pe_bl)) pss_nil)
      (pss_cons (ps_set (i := 7) sclaw.nd rfl (Or.inl rfl) (pe_lst (pa_cons pe_str (pa_cons (pe_op op_add_str (pv 4) pe_str) (pa_cons (pe_slice sl_str (pv 4) (po_some pe_int) po_none) (pa_cons pe_str (pa_cons pe_str (pa_cons pe_str (pa_cons pe_int (pa_cons pe_int (pa_cons pe_non (pa_cons pe_bl (pa_cons (pe_lst (pa_cons (pv 4) pa_nil)) (pa_cons (pe_tup (pa_cons (pv 4) pa_nil)) (pa_cons pe_dnewK pa_nil)))))))))))))))
      (pss_one (ps_if (pt_not (pt_val (pe_dn D_law_refused (hr.mono (by decide)) rfl (pa_cons (pe_ix ix_list (pv 7) (pe_dn D_law_draw (hr.mono (by decide)) rfl (pa_cons (pv 1) (pa_cons pe_int pa_nil))) (fun _ _ => rfl)) (pa_cons (pv 5) pa_nil))))) (pss_one (ps_ret pe_bl)) pss_nil)))))))
      (pss_one (ps_ret pe_bl)))))), ?_⟩
    refine ⟨_, rfl, a, ns, rfl, hS, hl, fun p L H1 np nL hP1 s1 => ?_⟩
    have g1 : TabG H1 P' := tabSame hG s1
    refine ⟨(by show 6 ≤ sizeLine; decide), fun tl htl => ?_⟩
    have n_tl : tl ≠ p := hP1.lt_new htl
    have x_tl : (upd H1 tl (.lst TR)) tl = some (.lst TR) := upd_same
    have hP2 : Pen (upd H1 tl (.lst TR)) p L ns 0 := hP1.new htl
    have g2 : TabG (upd H1 tl (.lst TR)) P' := tabSame g1 (same_new htl)
    revert x_tl hP2 g2
    show _ → _ → _ → tSeq _ _ _ _ (upd H1 tl (.lst TR))
    generalize upd H1 tl (.lst TR) = H2
    intro x_tl hP2 g2
    obtain ⟨t, ty, kt⟩ := isTup (tT H2)
    refine ⟨.ref (He.ga K "TRAITS"), .ty "tuple", t, .type "tuple", true, rfl, .ty "tuple", ty, kt, _, rfl, iteF ?_⟩
    refine ⟨_, TR, rfl, .inr (tT H2), fun l2 hl2 => ?_⟩
    have s3 := same_new (o := .lst TR) hl2
    refine ⟨_, rfl, _, _, dp_TR upd_same, dp_TR (s3 _ _ x_tl), by decide +kernel, by decide +kernel, _, rfl, ?_⟩
    have ev : PyData.eqv (.list (TRS.map .str)) (.list (TRS.map .str)) = true := by decide +kernel
    rw [ev]
    refine iteF ?_
    have x_tl := s3 _ _ x_tl
    have hP3 : Pen (upd H2 l2 (.lst TR)) p L ns 0 := hP2.new hl2
    have g3 : TabG (upd H2 l2 (.lst TR)) P' := tabSame g2 s3
    clear s3
    revert x_tl hP3 g3
    show _ → _ → _ → tSeq _ _ _ _ (upd H2 l2 (.lst TR))
    generalize upd H2 l2 (.lst TR) = H3
    intro x_tl hP3 g3
    refine ⟨_, rfl, p, L, ns, 0, 51, rfl, hP3, (by decide), (by decide), (by decide), fun k0 H4 k00 k01 hP4 b4 => ?_⟩
    refine ⟨_, _, rfl, rfl, 10 + k0, rfl, (by omega), (by omega), ?_⟩
    refine for_range (lo := 0) (n := (10 + k0).toNat) (fun i σ H5 => ∃ v3 v4 v5 v6 v7 : Option V, σ = [some (.ref a), some (.ref p), some (.ref tl), v3, v4, v5, v6, v7] ∧ Pen H5 p L ns (1 + 10 * i) ∧ TabG H5 P' ∧ H5 tl = some (.lst TR)) ?_ ?_ ?_
    · exact ⟨none, none, none, none, none, rfl, hP4, hP3.tab g3 b4.kp, (b4 tl n_tl).trans x_tl⟩
    · rintro i σ H5 hi ⟨v3, v4, v5, v6, v7, rfl, hP5, g5, x5⟩
      -- trait, thing
      refine ⟨_, rfl, _, rfl, p, L, ns, _, 6, rfl, hP5, (by decide), (by decide), (by omega), fun k6 H6 k60 k61 hP6 b6 => ?_⟩
      obtain ⟨v, e6, hv⟩ := listAt (xs := TR) k60 k61
      obtain ⟨z, rfl, mz⟩ : ∃ z, v = V.str z ∧ z ∈ TRS := by
        simp only [TR, List.mem_cons, List.not_mem_nil, or_false] at hv
        rcases hv with rfl | rfl | rfl | rfl | rfl | rfl <;> exact ⟨_, rfl, by decide +kernel⟩
      obtain ⟨q1, q2, q3, q4⟩ := trait_s mz
      have zs : z.length ≤ sizeLine := Nat.le_of_lt (small1000 (by omega))
      refine ⟨tl, _, _, _, rfl, rfl, SqL.of ((b6 tl n_tl).trans x5), e6, ?_⟩
      refine ⟨_, rfl, p, L, ns, _, rfl, hP6, (by omega), fun x H7 hx hP7 k7 => ?_⟩
      refine ⟨_, _, rfl, ?_⟩
      have kp7 : Kp p H5 H7 := b6.kp.trans k7
      have g7 := hP5.tab g5 kp7
      have x7 := kp7 _ _ x5 n_tl
      -- found
      refine ⟨_, rfl, _, rfl, .str z, x, rfl, ok_str zs, hx, g7, fun h => (by rw [trait_true mz] at h; cases h), fun z' ez mz' H8 h8 => ?_⟩
      obtain rfl : z = z' := V.str.inj ez
      have k8 := tabbedKt h8
      have hx8 : Ok1 H8 x := ⟨hx.1.kt g7 k8, hx.2⟩
      have hP8 := hP7.kt g7 k8
      have n7 : tl ≠ P' := by
        obtain ⟨ps, g, _⟩ := g7
        exact ne_of x7 g fun z => nomatch z
      have x8 := k8 _ _ x7 n7
      refine ⟨_, rfl, .bl _, .ty "bool", _, .type "bool", true, rfl, .ty "bool", .base (.bl _), kit_ty (by decide +kernel), _, rfl, iteF ?_⟩
      refine ⟨_, rfl, _, rfl, _, rfl, z, x, rfl, mz, hx8, fun H9 s9 => ⟨rfl, _, rfl, iteNS rfl ?_⟩⟩
      have hx9 : Ok1 H9 x := ⟨hx8.1.same s9, hx8.2⟩
      have hP9 := hP8.keep' s9
      have x9 := s9 _ _ x8
      have g9 := tabSame h8.1 s9
      -- odd
      have l2 := cutS_length z (some 1) none
      refine ⟨_, rfl, _, _, rfl, rfl, (by show z.length + 1 ≤ _; rw [sizeLine_eq]; omega), _, rfl, 1, rfl, z, rfl, zs, ?_⟩
      refine ⟨_, rfl, (by show 1 ≤ sizeLine; decide), fun o1 ho1 => ?_⟩
      have x_o1 : (upd H9 o1 (.lst ([V.str z]))) o1 = some (.lst ([V.str z])) := upd_same
      have s_o1 : Same H9 (upd H9 o1 (.lst ([V.str z]))) := same_new ho1
      have hP_o1 : Pen (upd H9 o1 (.lst ([V.str z]))) p L ns _ := hP9.new ho1
      have n_o1 : o1 ≠ p := hP9.lt_new ho1
      have g_o1 : TabG (upd H9 o1 (.lst ([V.str z]))) P' := tabSame g9 s_o1
      revert x_o1 s_o1 hP_o1 g_o1
      generalize upd H9 o1 (.lst ([V.str z])) = H_o1
      intro x_o1 s_o1 hP_o1 g_o1
      refine ⟨_, rfl, (by show 1 ≤ sizeLine; decide), fun o2 ho2 => ?_⟩
      have x_o2 : (upd H_o1 o2 (.tup ([V.str z]))) o2 = some (.tup ([V.str z])) := upd_same
      have s_o2 : Same H_o1 (upd H_o1 o2 (.tup ([V.str z]))) := same_new ho2
      have hP_o2 : Pen (upd H_o1 o2 (.tup ([V.str z]))) p L ns _ := hP_o1.new ho2
      have n_o2 : o2 ≠ p := hP_o1.lt_new ho2
      have g_o2 : TabG (upd H_o1 o2 (.tup ([V.str z]))) P' := tabSame g_o1 s_o2
      revert x_o2 s_o2 hP_o2 g_o2
      generalize upd H_o1 o2 (.tup ([V.str z])) = H_o2
      intro x_o2 s_o2 hP_o2 g_o2
      intro o3 ho3
      have x_o3 : (upd H_o2 o3 (.dK ([]))) o3 = some (.dK ([])) := upd_same
      have s_o3 : Same H_o2 (upd H_o2 o3 (.dK ([]))) := same_new ho3
      have hP_o3 : Pen (upd H_o2 o3 (.dK ([]))) p L ns _ := hP_o2.new ho3
      have n_o3 : o3 ≠ p := hP_o2.lt_new ho3
      have g_o3 : TabG (upd H_o2 o3 (.dK ([]))) P' := tabSame g_o2 s_o3
      revert x_o3 s_o3 hP_o3 g_o3
      generalize upd H_o2 o3 (.dK ([])) = H_o3
      intro x_o3 s_o3 hP_o3 g_o3
      refine ⟨(by show 13 ≤ sizeLine; decide), fun O hO => ?_⟩
      have x_O : (upd H_o3 O (.lst ([V.str "", V.str (z ++ "s"), V.str (cutS z (some 1) none), V.str "Left", V.str " size", V.str "name", V.int 0, V.int 4, V.non, V.bl true, V.ref o1, V.ref o2, V.ref o3]))) O = some (.lst ([V.str "", V.str (z ++ "s"), V.str (cutS z (some 1) none), V.str "Left", V.str " size", V.str "name", V.int 0, V.int 4, V.non, V.bl true, V.ref o1, V.ref o2, V.ref o3])) := upd_same
      have s_O : Same H_o3 (upd H_o3 O (.lst ([V.str "", V.str (z ++ "s"), V.str (cutS z (some 1) none), V.str "Left", V.str " size", V.str "name", V.int 0, V.int 4, V.non, V.bl true, V.ref o1, V.ref o2, V.ref o3]))) := same_new hO
      have hP_O : Pen (upd H_o3 O (.lst ([V.str "", V.str (z ++ "s"), V.str (cutS z (some 1) none), V.str "Left", V.str " size", V.str "name", V.int 0, V.int 4, V.non, V.bl true, V.ref o1, V.ref o2, V.ref o3]))) p L ns _ := hP_o3.new hO
      have n_O : O ≠ p := hP_o3.lt_new hO
      have g_O : TabG (upd H_o3 O (.lst ([V.str "", V.str (z ++ "s"), V.str (cutS z (some 1) none), V.str "Left", V.str " size", V.str "name", V.int 0, V.int 4, V.non, V.bl true, V.ref o1, V.ref o2, V.ref o3]))) P' := tabSame g_o3 s_O
      revert x_O s_O hP_O g_O
      generalize upd H_o3 O (.lst ([V.str "", V.str (z ++ "s"), V.str (cutS z (some 1) none), V.str "Left", V.str " size", V.str "name", V.int 0, V.int 4, V.non, V.bl true, V.ref o1, V.ref o2, V.ref o3])) = H_O
      intro x_O s_O hP_O g_O
      refine ⟨_, rfl, _, rfl, p, L, ns, _, 13, rfl, hP_O, (by decide), (by decide), (by omega), fun k9 H10 k90 k91 hP10 b10 => ?_⟩
      obtain ⟨v, e10, hv⟩ := listAt (xs := [V.str "", V.str (z ++ "s"), V.str (cutS z (some 1) none), V.str "Left", V.str " size", V.str "name", V.int 0, V.int 4, V.non, V.bl true, V.ref o1, V.ref o2, V.ref o3]) k90 k91
      have kO : Kp p H9 H10 := (sameKp (((s_o1.trans s_o2).trans s_o3).trans s_O)).trans b10.kp
      have f1 := b10.kp _ _ (s_O _ _ (s_o3 _ _ (s_o2 _ _ x_o1))) n_o1
      have f2 := b10.kp _ _ (s_O _ _ (s_o3 _ _ x_o2)) n_o2
      have f3 := b10.kp _ _ (s_O _ _ x_o3) n_o3
      refine ⟨O, _, _, v, rfl, rfl, SqL.of ((b10 O n_O).trans x_O), e10, ?_⟩
      have okv : Ok1 H10 v ∧ traitV v = false := by
        simp only [List.mem_cons, List.not_mem_nil, or_false] at hv
        rcases hv with rfl | rfl | rfl | rfl | rfl | rfl | rfl | rfl | rfl | rfl | rfl | rfl | rfl
        · exact ⟨ok_str (by decide +kernel), by decide +kernel⟩
        · exact ⟨ok_str (Nat.le_of_lt (small1000 (by omega))), q1⟩
        · exact ⟨ok_str (Nat.le_of_lt (small1000 (by omega))), q2⟩
        · exact ⟨ok_str (by decide +kernel), by decide +kernel⟩
        · exact ⟨ok_str (by decide +kernel), by decide +kernel⟩
        · exact ⟨ok_str (by decide +kernel), by decide +kernel⟩
        · exact ⟨⟨.int _, fun _ e => nomatch e⟩, rfl⟩
        · exact ⟨⟨.int _, fun _ e => nomatch e⟩, rfl⟩
        · exact ⟨⟨.non, fun _ e => nomatch e⟩, rfl⟩
        · exact ⟨⟨.bl _, fun _ e => nomatch e⟩, rfl⟩
        · exact ⟨ok_ref (.lst f1), rfl⟩
        · exact ⟨ok_ref (.tup f2), rfl⟩
        · exact ⟨ok_ref (.dK f3), rfl⟩
      have hx10 : Ok1 H10 x := th_kp hP9 hP10 hx9 kO
      refine ⟨_, rfl, v, x, rfl, okv.1, hx10, hP_O.tab g_O b10.kp, okv.2, fun H11 s11 => ⟨_, rfl, iteF ?_⟩⟩
      exact ⟨_, _, _, _, _, rfl, (hP10.keep' s11).up (by omega), tabSame (hP_O.tab g_O b10.kp) s11, s11 _ _ (kO _ _ x9 n_tl)⟩
    · rintro σ H5 ⟨v3, v4, v5, v6, v7, rfl, _⟩
      exact q H5
end
/-! ### what the head tells of the worths' bounds -/
def seqB (K : PySem.W.Frag) (a : Addr) (vs : List V) : Bool := match K.lookup a with
  | some ⟨.type c, _, .seq its _, _⟩ => decide (c = "tuple") && (decide (its.size ≤ sizeLine) && He.relAll vs its.toList)
  | _ => false
theorem seqB_ok {K : PySem.W.Frag} {a : Addr} {vs : List V} (h : seqB K a vs = true) (H : Hp) : SqT K H a vs := by
  unfold seqB at h
  split at h
  · rename_i c dd its n sl e
    simp only [Bool.and_eq_true, decide_eq_true_eq] at h
    obtain ⟨rfl, h2, h3⟩ := h
    exact .inr ⟨_, its, n, e, rfl, rfl, h2, He.relAll_ok h3⟩
  · cases h
def BKS : List Str := ["left", "top", "wide", "high", "size"]
def boundsB (K : PySem.W.Frag) : Bool := BKS.all fun z => match PySem.W.nsIn K (He.ga K "BOUNDS") z with
  | some (some (.ref a)) => seqB K a [.int (bnd z).1, .int (bnd z).2]
  | _ => false
theorem bks {z : Str} (h : z ∈ TRS) (n : z ≠ "ink") : z ∈ BKS := by
  simp only [TRS, List.mem_cons, List.not_mem_nil, or_false] at h
  rcases h with rfl | rfl | rfl | rfl | rfl | rfl
  · decide +kernel
  · decide +kernel
  · decide +kernel
  · decide +kernel
  · decide +kernel
  · exact absurd rfl n
theorem boundsB_ok {K : PySem.W.Frag} {w : World} (h : boundsB K = true) (d : ∃ es n, L2.KDict K w (He.ga K "BOUNDS") es n) : BN K w := by
  refine ⟨fun z mz nz => ?_⟩
  have h1 := List.all_eq_true.mp h z (bks mz nz)
  obtain ⟨es, n, hd⟩ := d
  split at h1
  · rename_i a e
    exact ⟨a, ⟨es, n, .ref a, hd.at_, hd.lit, e, rfl⟩, fun H => seqB_ok h1 H⟩
  · cases h1
theorem dnS {P : Program} {w : World} {K : PySem.W.Frag} {mg : Str → Option Value} {base : Heap} {k : Nat} {x : Str} {ps : List Str} {sp : Sp} {st : Stmt} {fd : FuncData} (F : FnP K x st (He.fAd K (x, none)) fd) (hm : mg x = some (.ref (He.ga K x)))
    (b : Binds K fd ps []) (h : FnOk P w K mg base (L2.CX P w) k (He.fAd K (x, none)) fd ps sp) : DnS P w K mg base k x ps sp := ⟨_, fd, hm, F.kp, b, h⟩
/-! ### the head -/
def dOf (x : Str) (st : Stmt) : He.DefD := ⟨(x, none), x, x, defArgs st, defBody st, defScope st, [], []⟩
def fn : List He.DefD := [dOf "is_whole" sis_whole, dOf "is_whole_within" sis_whole_within, dOf "is_one_of" sis_one_of, dOf "is_name" sis_name, dOf "is_trait" sis_trait, dOf "is_worth" sis_worth, dOf "_law_pen" slaw_pen, dOf "_law_draw" slaw_draw, dOf "_law_word" slaw_word, dOf "_law_is" slaw_is, dOf "_law_thing" slaw_thing, dOf "_law_refused" slaw_refused, dOf "law" slaw]
def fa : List He.Fa := [.glo "is_whole", .glo "is_whole_within", .glo "is_one_of", .glo "is_name", .glo "is_trait", .glo "is_worth", .glo "_law_pen", .glo "_law_draw", .glo "_law_word", .glo "_law_is", .glo "_law_thing", .glo "_law_refused", .glo "law", .free "len", .free "all", .free "bool", .free "isinstance", .free "list", .free "range", .free "str", .free "int", .free "tuple", .free "ValueError", .glo "TRAITS", .glo "BOUNDS", .glo "DeckError", .str "LETTERS" LETS, .str "FIGURES" FIGS, .int "LONGEST_NAME" 8]
def tf : List He.Defn := [("is_name", none)]
def ex : PySem.W.Frag → Bool := fun K => He.tupB K "TRAITS" [.str "left", .str "top", .str "wide", .str "high", .str "size", .str "ink"] && ((CLS.all fun x => (He.Fa.glo x).ok K) && (excB K (He.ga K "NoTrait") && (decide (PySem.W.exmOne K (.ref (He.ga K "NoTrait")) (.ref (He.ga K "DeckError")) = some true) && (kitB K (He.ga K "NoTrait") "NoTrait" CLS && (decide (PySem.W.kitOne K (.ref (He.ga K "NoTrait")) (.type "ValueError") = some true) && boundsB K)))))
def ts : List He.Tab := [(fun K => He.ga K "BOUNDS", BKS)]
abbrev R : PySem.W.OpenRow := PySem.W.OpenLaw.row PySem.Challenge.rw_mastershow_k02_worths_of_traits
abbrev hk : PySem.W.Hook := He.hookX 4 fa fn ts tf ex
def ob (s : PySem.W.SharedT) : He.AlX := He.obsX 4 fa fn ts tf ex (HandSHeadRun.getT s)
theorem ob_eq (s : PySem.W.SharedT) : ob s = hk.obs s.abs := He.obsX_eq (HandSHeadRun.getT_eq s)
theorem run (w : World) : HandSHeadRun.RunEq R (PySem.W.view R.prog [45]) hk ob 6000 [("DeckError" : PySem.Str), ("NoDeck" : PySem.Str), ("NoMaster" : PySem.Str), ("NoSlide" : PySem.Str), ("NoPlace" : PySem.Str), ("NoTrait" : PySem.Str), ("NoWorth" : PySem.Str), ("NoSetting" : PySem.Str), ("NoName" : PySem.Str), ("Taken" : PySem.Str), ("TooMany" : PySem.Str), ("Ring" : PySem.Str), ("Used" : PySem.Str), ("NoRoom" : PySem.Str), ("NoSteps" : PySem.Str), ("NoPress" : PySem.Str), ("NoTime" : PySem.Str), ("NoShow" : PySem.Str), ("NoLink" : PySem.Str), ("NoNumber" : PySem.Str), ("NoWord" : PySem.Str), ("NoDeed" : PySem.Str), ("NoText" : PySem.Str), ("NoRow" : PySem.Str), ("is_whole" : PySem.Str), ("is_whole_within" : PySem.Str), ("is_one_of" : PySem.Str), ("TRAITS" : PySem.Str), ("BOUNDS" : PySem.Str), ("LETTERS" : PySem.Str), ("FIGURES" : PySem.Str), ("LONGEST_NAME" : PySem.Str), ("is_name" : PySem.Str), ("is_trait" : PySem.Str), ("is_worth" : PySem.Str), ("_law_pen" : PySem.Str), ("_law_draw" : PySem.Str), ("_law_word" : PySem.Str), ("_law_is" : PySem.Str), ("_law_thing" : PySem.Str), ("_law_refused" : PySem.Str)] w := by
  refine PySem.W.byRow2 "special-get-raises" (P := fun w => HandSHeadRun.RunEq R (PySem.W.view R.prog [45]) hk ob 6000 [("DeckError" : PySem.Str), ("NoDeck" : PySem.Str), ("NoMaster" : PySem.Str), ("NoSlide" : PySem.Str), ("NoPlace" : PySem.Str), ("NoTrait" : PySem.Str), ("NoWorth" : PySem.Str), ("NoSetting" : PySem.Str), ("NoName" : PySem.Str), ("Taken" : PySem.Str), ("TooMany" : PySem.Str), ("Ring" : PySem.Str), ("Used" : PySem.Str), ("NoRoom" : PySem.Str), ("NoSteps" : PySem.Str), ("NoPress" : PySem.Str), ("NoTime" : PySem.Str), ("NoShow" : PySem.Str), ("NoLink" : PySem.Str), ("NoNumber" : PySem.Str), ("NoWord" : PySem.Str), ("NoDeed" : PySem.Str), ("NoText" : PySem.Str), ("NoRow" : PySem.Str), ("is_whole" : PySem.Str), ("is_whole_within" : PySem.Str), ("is_one_of" : PySem.Str), ("TRAITS" : PySem.Str), ("BOUNDS" : PySem.Str), ("LETTERS" : PySem.Str), ("FIGURES" : PySem.Str), ("LONGEST_NAME" : PySem.Str), ("is_name" : PySem.Str), ("is_trait" : PySem.Str), ("is_worth" : PySem.Str), ("_law_pen" : PySem.Str), ("_law_draw" : PySem.Str), ("_law_word" : PySem.Str), ("_law_is" : PySem.Str), ("_law_thing" : PySem.Str), ("_law_refused" : PySem.Str)] w) (fun w => ?_) (fun w => ?_) w
  · intro os
    kernel_rfl
  · intro os
    kernel_rfl
theorem dn {P : Program} {w : World} {K : PySem.W.Frag} {mg : Str → Option Value} {base : Heap} {k : Nat} {x : Str} {ps : List Str} {sp : Sp} {st : Stmt} {fd : FuncData} (F : FnP K x st (He.fAd K (x, none)) fd) (hm : mg x = some (.ref (He.ga K x)))
    (b : Binds K fd ps []) (h : FnOk P w K mg base CX0 k (He.fAd K (x, none)) fd ps sp) : Dn P w K mg base k x ps sp := ⟨_, fd, hm, F.kp, b, h⟩
theorem facts {w : World} {K : PySem.W.Frag} {h : Heap} {mg : Str → Option Value} {f : Addr} (X : K.In h) (G : h.Ns mainGlobals mg) (hfa : mg ("law" : Str) = some (.ref f)) (c : He.SaysX fa fn ts tf ex w h K) :
    LamX.LawAtS PySem.Challenge.rw_mastershow_k02_worths_of_traits w K CX0 5 63 "script" mg f h := by
  have cd := c.t.d
  obtain ⟨fd0, F0⟩ := cd.def_ 0 (d := dOf "is_whole" sis_whole) rfl
  have F0 : FnP K "is_whole" sis_whole (He.fAd K ("is_whole", none)) fd0 := F0
  obtain ⟨fd1, F1⟩ := cd.def_ 1 (d := dOf "is_whole_within" sis_whole_within) rfl
  have F1 : FnP K "is_whole_within" sis_whole_within (He.fAd K ("is_whole_within", none)) fd1 := F1
  obtain ⟨fd2, F2⟩ := cd.def_ 2 (d := dOf "is_one_of" sis_one_of) rfl
  have F2 : FnP K "is_one_of" sis_one_of (He.fAd K ("is_one_of", none)) fd2 := F2
  obtain ⟨fd3, F3⟩ := cd.def_ 3 (d := dOf "is_name" sis_name) rfl
  have F3 : FnP K "is_name" sis_name (He.fAd K ("is_name", none)) fd3 := F3
  obtain ⟨fd4, F4⟩ := cd.def_ 4 (d := dOf "is_trait" sis_trait) rfl
  have F4 : FnP K "is_trait" sis_trait (He.fAd K ("is_trait", none)) fd4 := F4
  obtain ⟨fd5, F5⟩ := cd.def_ 5 (d := dOf "is_worth" sis_worth) rfl
  have F5 : FnP K "is_worth" sis_worth (He.fAd K ("is_worth", none)) fd5 := F5
  obtain ⟨fd6, F6⟩ := cd.def_ 6 (d := dOf "_law_pen" slaw_pen) rfl
  have F6 : FnP K "_law_pen" slaw_pen (He.fAd K ("_law_pen", none)) fd6 := F6
  obtain ⟨fd7, F7⟩ := cd.def_ 7 (d := dOf "_law_draw" slaw_draw) rfl
  have F7 : FnP K "_law_draw" slaw_draw (He.fAd K ("_law_draw", none)) fd7 := F7
  obtain ⟨fd8, F8⟩ := cd.def_ 8 (d := dOf "_law_word" slaw_word) rfl
  have F8 : FnP K "_law_word" slaw_word (He.fAd K ("_law_word", none)) fd8 := F8
  obtain ⟨fd9, F9⟩ := cd.def_ 9 (d := dOf "_law_is" slaw_is) rfl
  have F9 : FnP K "_law_is" slaw_is (He.fAd K ("_law_is", none)) fd9 := F9
  obtain ⟨fd10, F10⟩ := cd.def_ 10 (d := dOf "_law_thing" slaw_thing) rfl
  have F10 : FnP K "_law_thing" slaw_thing (He.fAd K ("_law_thing", none)) fd10 := F10
  obtain ⟨fd11, F11⟩ := cd.def_ 11 (d := dOf "_law_refused" slaw_refused) rfl
  have F11 : FnP K "_law_refused" slaw_refused (He.fAd K ("_law_refused", none)) fd11 := F11
  obtain ⟨fd12, F12⟩ := cd.def_ 12 (d := dOf "law" slaw) rfl
  have F12 : FnP K "law" slaw (He.fAd K ("law", none)) fd12 := F12
  have e := hfa.symm.trans (He.glo_ok X G (cd.fact 12 (f := .glo "law") rfl))
  cases e
  have T : Txt0 mg := ⟨He.free_ok X G (cd.fact 13 (f := .free "len") rfl),
    He.free_ok X G (cd.fact 14 (f := .free "all") rfl),
    He.free_ok X G (cd.fact 15 (f := .free "bool") rfl),
    He.free_ok X G (cd.fact 16 (f := .free "isinstance") rfl),
    He.free_ok X G (cd.fact 17 (f := .free "list") rfl),
    He.free_ok X G (cd.fact 18 (f := .free "range") rfl),
    He.free_ok X G (cd.fact 19 (f := .free "str") rfl),
    He.free_ok X G (cd.fact 20 (f := .free "int") rfl),
    He.free_ok X G (cd.fact 21 (f := .free "tuple") rfl),
    He.free_ok X G (cd.fact 22 (f := .free "ValueError") rfl)⟩
  have g_TRAITS := He.glo_ok X G (cd.fact 23 (f := .glo "TRAITS") rfl)
  have g_BOUNDS := He.glo_ok X G (cd.fact 24 (f := .glo "BOUNDS") rfl)
  have g_DeckError := He.glo_ok X G (cd.fact 25 (f := .glo "DeckError") rfl)
  obtain ⟨t_g1, g1⟩ := He.str_ok X G (cd.fact 26 (f := .str "LETTERS" LETS) rfl)
  obtain ⟨t_g2, g2⟩ := He.str_ok X G (cd.fact 27 (f := .str "FIGURES" FIGS) rfl)
  obtain ⟨t_g3, g3⟩ := He.int_ok X G (cd.fact 28 (f := .int "LONGEST_NAME" 8) rfl)
  have mo := c.more
  unfold ex at mo
  simp only [Bool.and_eq_true, decide_eq_true_eq] at mo
  obtain ⟨x1, x2, x3, x4, x5, x6, x7⟩ := mo
  have T0' := T
  have T : Txt K mg := ⟨T0', fun x hx => He.glo_ok X G (List.all_eq_true.mp x2 x (List.contains_iff_mem.mp hx))⟩
  have N : NT K mg := ⟨excB_ok x3, g_DeckError, x4, x5, x6⟩
  have tT : ∀ H, SqT K H (He.ga K "TRAITS") TR := fun H => He.tupB_ok (vs := [.str "left", .str "top", .str "wide", .str "high", .str "size", .str "ink"]) x1 H
  have BB : BN K w := boundsB_ok x7 (c.t.tab 0 (t := (fun K => He.ga K "BOUNDS", BKS)) rfl)
  have b0 := F0.bindsN (ps := ["thing"]) fun _ _ _ _ _ _ us hl => match us, hl with | [_], _ => rfl
  have b1 := F1.bindsN (ps := ["thing", "low", "high"]) fun _ _ _ _ _ _ us hl => match us, hl with | [_, _, _], _ => rfl
  have b2 := F2.bindsN (ps := ["thing", "words"]) fun _ _ _ _ _ _ us hl => match us, hl with | [_, _], _ => rfl
  have b3 := F3.bindsN (ps := ["thing"]) fun _ _ _ _ _ _ us hl => match us, hl with | [_], _ => rfl
  have b4 := F4.bindsN (ps := ["thing"]) fun _ _ _ _ _ _ us hl => match us, hl with | [_], _ => rfl
  have b5 := F5.bindsN (ps := ["trait", "thing"]) fun _ _ _ _ _ _ us hl => match us, hl with | [_, _], _ => rfl
  have b6 := F6.bindsN (ps := ["script"]) fun _ _ _ _ _ _ us hl => match us, hl with | [_], _ => rfl
  have b7 := F7.bindsN (ps := ["pen", "many"]) fun _ _ _ _ _ _ us hl => match us, hl with | [_, _], _ => rfl
  have b8 := F8.bindsN (ps := ["e"]) fun _ _ _ _ _ _ us hl => match us, hl with | [_], _ => rfl
  have b9 := F9.bindsN (ps := ["trait", "thing"]) fun _ _ _ _ _ _ us hl => match us, hl with | [_, _], _ => rfl
  have b10 := F10.bindsN (ps := ["pen"]) fun _ _ _ _ _ _ us hl => match us, hl with | [_], _ => rfl
  have b11 := F11.bindsN (ps := ["trait", "thing"]) fun _ _ _ _ _ _ us hl => match us, hl with | [_, _], _ => rfl
  have b12 := FunD.bindsA (ps := ["script"]) F12 fun _ _ _ _ _ _ us hl => match us, hl with | [_], _ => rfl
  refine ⟨fd12, [He.cT K ("is_name", none)], spLaw K (He.cT K ("is_name", none)).2, ?_, ?_, ?_, fun s v => b12 s [v] rfl, ?_, ?_⟩
  · intro p hp
    obtain ⟨d, hd, rfl⟩ := (List.mem_map.mp (show p ∈ tf.map (fun d => He.cT K d) from hp))
    exact c.empty d hd
  · intro p hp
    obtain ⟨d, hd, rfl⟩ := (List.mem_map.mp (show p ∈ tf.map (fun d => He.cT K d) from hp))
    exact c.out d hd
  · intro p hp
    obtain ⟨d, hd, rfl⟩ := (List.mem_map.mp (show p ∈ tf.map (fun d => He.cT K d) from hp))
    exact PySem.W.codeHd_of_K X (c.hd d hd)
  · intro H a ns hl _ hT hS
    exact ⟨a, ns, rfl, hS, hl, ⟨#[], hT _ (List.mem_cons_self), (by first | exact triples_nil | simp [TriplesOk])⟩, fun _ => rfl⟩
  · intro base _ _ hB
    have B0 := hB _ (List.mem_cons_self)
    have T0 : GxR.TabB base mg (He.codeOf K ("is_name", none)) (He.cT K ("is_name", none)).2 := ⟨B0.code, B0.bm, B0.gP⟩
    have D0 := dn F0 (He.glo_ok X G (cd.fact 0 (f := .glo "is_whole") rfl)) b0 (ok_whole (P := (PySem.Challenge.rw_mastershow_k02_worths_of_traits).prog) (w := w) (base := base) F0 T)
    have D1 := dn F1 (He.glo_ok X G (cd.fact 1 (f := .glo "is_whole_within") rfl)) b1 (ok_within F1 T D0)
    have D2 := dn F2 (He.glo_ok X G (cd.fact 2 (f := .glo "is_one_of") rfl)) b2 (ok_oneof (P := (PySem.Challenge.rw_mastershow_k02_worths_of_traits).prog) (w := w) (base := base) F2 T)
    have D3 := dn F3 (He.glo_ok X G (cd.fact 3 (f := .glo "is_name") rfl)) b3 (ok_name (P := (PySem.Challenge.rw_mastershow_k02_worths_of_traits).prog) (w := w) (base := base) F3 T T0 g1 g2 g3)
    have D4 := dn F4 (He.glo_ok X G (cd.fact 4 (f := .glo "is_trait") rfl)) b4 (ok_trait F4 g_TRAITS tT D2)
    have D5 := dnS F5 (He.glo_ok X G (cd.fact 5 (f := .glo "is_worth") rfl)) b5 (ok_worth F5 T N BB g_BOUNDS D4 D3 D1)
    have D6 := dn F6 (He.glo_ok X G (cd.fact 6 (f := .glo "_law_pen") rfl)) b6 (ok_pen (P := (PySem.Challenge.rw_mastershow_k02_worths_of_traits).prog) (w := w) (base := base) F6 T)
    have D7 := dn F7 (He.glo_ok X G (cd.fact 7 (f := .glo "_law_draw") rfl)) b7 (ok_draw (P := (PySem.Challenge.rw_mastershow_k02_worths_of_traits).prog) (w := w) (base := base) F7 T)
    have D8 := dn F8 (He.glo_ok X G (cd.fact 8 (f := .glo "_law_word") rfl)) b8 (ok_word (P := (PySem.Challenge.rw_mastershow_k02_worths_of_traits).prog) (w := w) (base := base) F8 T N)
    have D9 := dn F9 (He.glo_ok X G (cd.fact 9 (f := .glo "_law_is") rfl)) b9 (ok_isW (P := (PySem.Challenge.rw_mastershow_k02_worths_of_traits).prog) (w := w) (base := base) F9 T)
    have D10 := dn F10 (He.glo_ok X G (cd.fact 10 (f := .glo "_law_thing") rfl)) b10 (ok_thing F10 T D7)
    have D11 := dn F11 (He.glo_ok X G (cd.fact 11 (f := .glo "_law_refused") rfl)) b11 (ok_refused F11 T N D5 D8)
    exact ok_law F12 T g_TRAITS tT D6 D7 D10 D9 D5 D11
end K2
open PySem PySem.W PySem.Calls PyProof.Rows
set_option maxRecDepth 100000 in
set_option maxHeartbeats 0 in
theorem PySem.Challenge.cw_mastershow_k02_worths_of_traits_holds : PySem.Challenge.rw_mastershow_k02_worths_of_traits.Holds := by
  w_on; o_law
  refine HandSHeadRun.head_any (r := OpenLaw.row PySem.Challenge.rw_mastershow_k02_worths_of_traits) (q := view (OpenLaw.row PySem.Challenge.rw_mastershow_k02_worths_of_traits).prog [45]) (H := K2.hk) (ob := K2.ob) (M := 6000) (loose := [("DeckError" : PySem.Str), ("NoDeck" : PySem.Str), ("NoMaster" : PySem.Str), ("NoSlide" : PySem.Str), ("NoPlace" : PySem.Str), ("NoTrait" : PySem.Str), ("NoWorth" : PySem.Str), ("NoSetting" : PySem.Str), ("NoName" : PySem.Str), ("Taken" : PySem.Str), ("TooMany" : PySem.Str), ("Ring" : PySem.Str), ("Used" : PySem.Str), ("NoRoom" : PySem.Str), ("NoSteps" : PySem.Str), ("NoPress" : PySem.Str), ("NoTime" : PySem.Str), ("NoShow" : PySem.Str), ("NoLink" : PySem.Str), ("NoNumber" : PySem.Str), ("NoWord" : PySem.Str), ("NoDeed" : PySem.Str), ("NoText" : PySem.Str), ("NoRow" : PySem.Str), ("is_whole" : PySem.Str), ("is_whole_within" : PySem.Str), ("is_one_of" : PySem.Str), ("TRAITS" : PySem.Str), ("BOUNDS" : PySem.Str), ("LETTERS" : PySem.Str), ("FIGURES" : PySem.Str), ("LONGEST_NAME" : PySem.Str), ("is_name" : PySem.Str), ("is_trait" : PySem.Str), ("is_worth" : PySem.Str), ("_law_pen" : PySem.Str), ("_law_draw" : PySem.Str), ("_law_word" : PySem.Str), ("_law_is" : PySem.Str), ("_law_thing" : PySem.Str), ("_law_refused" : PySem.Str)]) (d := HandSHeadRun.topDef (OpenLaw.row PySem.Challenge.rw_mastershow_k02_worths_of_traits).prog 45) (kwd := []) K2.ob_eq
    (by kernel_rfl) (fun s => by kernel_rfl) K2.run (by kernel_rfl) (by kernel_rfl) (by kernel_rfl) (by rfl) (by first | assumption | decide +kernel) (by decide +kernel) ⟨rfl, rfl, rfl, rfl, rfl, by decide +kernel⟩ ?hw ?hc
  case hw => w_witness2
  case hc =>
    refine LamX.walk_ofTsE (l := PySem.Challenge.rw_mastershow_k02_worths_of_traits) (n := 63) (k := 5) (x := "script") (CX := fun _ => L2.CX0) rfl (by decide) (by kernel_rfl) ⟨rfl, by decide, by decide⟩ ?F (fun _ _ _ _ _ z => z)
    intro w mg fa h Y G hmg0
    obtain ⟨K, KX, c⟩ := Y
    have hmg : mg ("law" : PySem.Str) = some (.ref fa) := by
      have e : (HandSHeadRun.topDef (OpenLaw.row PySem.Challenge.rw_mastershow_k02_worths_of_traits).prog 45).name = ("law" : PySem.Str) := by kernel_rfl
      rw [← e]
      exact hmg0
    exact ⟨K, KX, K2.facts KX G hmg c⟩

