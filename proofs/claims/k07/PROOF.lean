import PyProof.Rows.All
import Wide.All
import OpenK.AllK
import Wide.FinOn
import HandS.ForMost
import HandS.AnyAll
import HandS.IsInst
import HandS.Style
import HandS.Defaults
import HandS.Head0
import HandS.Head1
import HandS.Head2
import HandS.HeadEnd
import HandS.HeadHook1
import HandS.HeadHook2
import HandS.HeadHook3
import HandS.HeadHook4
import HandS.HeadWalk
import HandS.Zip
import HandS.Walk
import HandS.Exc
import HandS.ExcIs
import HandS.ExcOwn
import HandS.ExcValue
import HandS.SetFor
import PySem.Challenge.RW_mastershow_k07_refused_of_masters
import HandS.Text
import HandS.Lambda
set_option Elab.async false
set_option linter.all false
set_option maxRecDepth 100000
set_option maxHeartbeats 2000000
/-! all(test of sign for sign in text), the test over the module's own names -/
namespace Gx
open PySem PySem.Spec PyProof.Rows L2 GxR

/-- the element, in any frame of the generator, over the module as it stands -/
def EltG (X : Cx) (scope : Scope) (x : Str) (elt : Expr) (pb : Nat → Bool) : Prop :=
  ∀ (ge : Env) (B : Around) (F : Value → Shared → Prop) (c : Nat) (tk : Tok) (z : Shared) (m : Str → Option Value),
    ge.scope = scope → ge.globals = X.env.globals → z.heap.Ns ge.locals m → m x = some (.str ⟨#[c]⟩ tk) →
    (∀ b o, X.base.get? b = some o → z.heap.get? b = some o) → z.heap.Ns ge.globals X.mg →
    wpAny (model X.prog X.w) B (eval elt ge) (fun y z' => y = .bool (pb c) ∧ Keeps z z') F z

/-- x in G, G a text of the module's -/
theorem elt_inG {X : Cx} {scope : Scope} {x g : Str} {zs : Str} {tz : Tok} {p1 p2 p3 : Pos} (hk : scope.kind = .function) (hl : scope.names.lookup x = some .local)
    (hg : scope.names.lookup g = some .globalImplicit) (hm : X.mg g = some (.str zs tz)) (hd : (x == ("__debug__" : Str)) = false := by decide) (hd2 : (g == ("__debug__" : Str)) = false := by decide) :
    EltG X scope x (.Compare (.Name x p1) [.In] [.Name g p2] p3) (fun c => decide (c ∈ zs.cps.toList)) := by
  intro ge B F c tk z m hs hgl hn hx hb hN
  have kd : ge.scope.kind = .function := by rw [hs]; exact hk
  have kx : ge.scope.names.lookup x = some .local := by rw [hs]; exact hl
  have kg : ge.kindOf g = some .globalImplicit := (show ge.scope.names.lookup g = some .globalImplicit by rw [hs]; exact hg)
  refine wpAny_Compare1 ?_
  refine wpAny_Name (wpAny_loadName_local kd kx hn hx ?_) hd
  refine Calls.Name_function_global kd kg (Calls.loadGlobal_global hN hm ?_) hd2
  refine PyProof.Rows.in_str ?_
  exact ⟨congrArg Value.bool (PySem.StrLaws.found_one zs c), keeps_tok z z.toks⟩

/-- a or b -/
theorem elt_or {X : Cx} {scope : Scope} {x : Str} {a b : Expr} {pa pb : Nat → Bool} {p : Pos} (ha : EltG X scope x a pa) (hb : EltG X scope x b pb) :
    EltG X scope x (.BoolOp .Or [a, b] p) (fun c => pa c || pb c) := by
  intro ge B F c tk z m hs hgl hn hx hbs hN
  refine BoolOp_or (wpAny_mono (ha ge B F c tk z m hs hgl hn hx hbs hN) (fun v z1 hv => ?_) fun _ _ e => e)
  obtain ⟨rfl, h', t', rfl, kp⟩ := hv
  refine wpAny_truthy_bool ?_
  cases hp : pa c with
  | true =>
    refine ⟨?_, h', t', rfl, kp⟩
    show Value.bool true = Value.bool (pa c || pb c)
    rw [hp] <;> rfl
  | false =>
    refine BoolOp_one (wpAny_mono (hb ge B F c tk { z with heap := h', toks := t' } m hs hgl (hn.keeps kp) hx (fun q o e => kp q o (hbs q o e)) (hN.keeps kp)) (fun v z1 hv => ?_) fun _ _ e => e)
    obtain ⟨rfl, h2, t2, rfl, kp2⟩ := hv
    refine ⟨?_, h2, t2, rfl, fun q o e => kp2 q o (kp q o e)⟩
    show Value.bool (pb c) = Value.bool (pa c || pb c)
    rw [hp] <;> rfl

section
variable {X : Cx} {pins : List (Addr × Obj)} {σ : L2.St} {H : Hp} {s : Shared}
theorem gen_G {c P : Addr} {elt iter : Expr} {x : Str} {px gpos : Pos} {scope : Scope} {pb : Nat → Bool} {te : TE} {k : Nat} {W : Value → Shared → Prop} {R : Str → Hp → Prop}
    (room : Room k X.A) (tb : TabB X.base X.mg c P) (code : X.env.code = .ref c) (gs : GenS X.env scope x) (it : PE X iter te) (el : EltG X scope x elt pb)
    (fold : ∀ v, genFold iter X.env v = pure v) (I : Inv X pins σ H s) (h : te σ H fun v H1 => ∃ a : Str, v = .str a ∧ TabG H1 P ∧ R a H1)
    (fin : ∀ a H1 g s5, R a H1 → Ready X pins σ H1 P a pb g s5 → W (.ref g) s5) :
    wpAny (model X.prog X.w) X.A (eval (.GeneratorExp elt [⟨.Name x px, iter, [], 0⟩] scope gpos) X.env) W X.xe s := by
  refine wpAny_GeneratorExp_walksQ room.hd gs.co (closure_ok gs.free) gs.cell gs.dot gs.loc gs.kind (Nat.lt_of_le_of_lt (Nat.le_add_right X.A.depth (3 * k + 5)) (by have := room.dp; omega)) ?_ fold
  refine thn (it.run pins s σ H _ I h) ?_
  rintro xv s1 ⟨v, H1, J, rv, a, rfl, ⟨ps, tP, trip⟩, r⟩
  obtain ⟨t, rfl⟩ := _root_.id rv
  refine wpAny_pyIter_str fun o St walks st0 => ?_
  have atP := J.hok P _ tP
  have atP : s1.heap.get? P = some { cls := .none, data := .fields ps } := atP
  have ltP := Heap.lt_size atP
  have atP' : (s1.heap.push o).get? P = some { cls := .none, data := .fields ps } := Heap.get?_push_of_some _ atP
  have head := tb.code.keeps (h' := s1.heap.push o) fun b u e => Heap.get?_push_of_some _ (J.bk b u e)
  have lim := J.nolimit.push o
  have baseP : ∀ b u, X.base.get? b = some u → b ≠ P := fun b u e q => by
    have n := (J.bs b u e).2
    rw [q, tP] at n
    cases n
  have after : ∀ (cd : Value) (h3 : Heap) (tk : Nat) (ps' : Array Value), Heap.ExtBut P (s1.heap.push o) h3 → (s1.heap.push o).objs.size ≤ h3.objs.size → h3.get? P = some { cls := .none, data := .fields ps' } → (∃ more, ps' = ps ++ more) → TriplesOk ps'.toList →
      wpAny (model X.prog X.w) X.A (builtinsFor X.env.globals X.env.builtins) (fun bi s₄ =>
        ∃ Ia fp wr n₀ Pf St₀ pz F, Value.ref s1.heap.objs.size = .ref Ia ∧ (∀ A' : Around, A'.handled = none → Walks X.prog X.w A' Ia fp wr n₀ Pf St₀) ∧ St₀ 0 s₄.heap ∧ (∀ b ∈ fp, b < s₄.heap.objs.size) ∧ s₄.heap.NoLimit ∧ cStatics ∉ wr ∧
          (∀ href : Heap, (∀ b o, s₄.heap.get? b = some o → href.get? b = some o) →
            QuietGen X.prog X.w (genEnv scope (cloFrom X.env.cells scope.names []) s₄.heap.objs.size cd bi X.env) x [] elt (List.range s₄.heap.objs.size) wr Pf pz F href) ∧
          (∀ a h₅ tk gs, gs.bare = true → s₄.heap.objs.size < a → h₅.objs.size = a + 1 → (∀ b o, s₄.heap.get? b = some o → h₅.get? b = some o) →
            WalksS X.prog X.w X.A.in4 a (a :: s₄.heap.objs.size :: List.range s₄.heap.objs.size) (s₄.heap.objs.size :: wr) (GenOnlyQ s₄.gens.size) (passing pz n₀ 0).length
              (fun j y => ∃ i, (passing pz n₀ 0)[j]? = some i ∧ F i y) (GenAt X.prog X.w X.A.in4 a s₄.gens.size s₄.heap.objs.size (List.range s₄.heap.objs.size) wr pz n₀ F) →
            GenAt X.prog X.w X.A.in4 a s₄.gens.size s₄.heap.objs.size (List.range s₄.heap.objs.size) wr pz n₀ F 0 { s₄ with gens := s₄.gens.push gs, toks := tk, heap := h₅ } →
            W (.ref a) { s₄ with gens := s₄.gens.push gs, toks := tk, heap := h₅ })) X.xe { s1 with heap := h3, toks := tk } := by
    intro cd h3 tk ps' ext size atP3 grown trip3
    obtain ⟨bm, ob, e1, e2, e3, e4, e5, e6, e7, e8⟩ := tb.bm
    have statP : cStatics ≠ P := fun e => by
      obtain ⟨_, hns, _⟩ := J.nolimit
      obtain ⟨o', es, ep, ho, hd, _⟩ := hns
      rw [e, atP] at ho
      cases ho
      cases hd
    have statLt : cStatics < s1.heap.objs.size := let ⟨_, hns, _⟩ := J.nolimit; hns.lt
    have sz2 : (s1.heap.push o).objs.size = s1.heap.objs.size + 1 := Heap.size_push ..
    have kept : ∀ b u, b ≠ P → s1.heap.get? b = some u → h3.get? b = some u := fun b u hb e => ext b u hb (Heap.get?_push_of_some _ e)
    have glob3 : h3.Ns X.env.globals X.mg := by
      rw [J.ok.glob]
      exact ((J.mod.glob.keeps J.bk).push o).extBut ext tb.gP
    refine wpAny_builtinsFor (m := X.mg) glob3 e1 e2 (kept _ _ e4 (J.bk _ _ e5)) e6 e7 e8 ?_
    refine ⟨s1.heap.objs.size, [s1.heap.objs.size], [s1.heap.objs.size], a.cps.size, SignAt a, St, (fun _ => true), (fun i y => ∃ cc, a.cps[i]? = some cc ∧ y = .bool (pb cc)), rfl, walks, ?_, ?_, lim.extBut ext statP, ?_, ?_, ?_⟩
    · refine (walks X.A room.hd).frame _ _ _ st0 fun b hb u e => ext b u (fun z => ?_) e
      have q := List.mem_singleton.mp hb
      exact Nat.ne_of_lt ltP (z.symm.trans q)
    · intro b hb
      rw [List.mem_singleton.mp hb]
      show s1.heap.objs.size < h3.objs.size
      omega
    · intro z
      exact Nat.ne_of_lt statLt (List.mem_singleton.mp z)
    · intro href hhref
      have seen : ∀ s₂ : Shared, (∀ b ∈ List.range h3.objs.size, b ∉ [s1.heap.objs.size] → ∀ o, href.get? b = some o → s₂.heap.get? b = some o) → ∀ b u, b ≠ P → s1.heap.get? b = some u → s₂.heap.get? b = some u := fun s₂ hk b u hb e => by
        have l1 := Heap.lt_size e
        refine hk b (List.mem_range.mpr (Nat.lt_of_lt_of_le l1 (by omega))) (fun q => Nat.ne_of_lt l1 (List.mem_singleton.mp q)) u (hhref b u (kept b u hb e))
      refine ⟨fun A' E' i v s₂ m₂ hA hPv hn hm hk => ?_, fun A' E' i v s₂ m₂ hA hPv hp hn hm hk => ?_⟩
      · simp only [List.forIn_nil]
        exact wpAny_pure ⟨rfl, keeps_refl _⟩
      · obtain ⟨cc, u, hcc, rfl⟩ := hPv
        have gl2 : s₂.heap.Ns X.env.globals X.mg := by
          obtain ⟨og, es, ep, eg, dg, rg⟩ := J.mod.glob
          rw [J.ok.glob]
          exact ⟨og, es, ep, seen s₂ hk _ _ tb.gP (J.bk _ _ eg), dg, rg⟩
        exact wpAny_mono (el _ A' E' cc u s₂ m₂ rfl rfl hn hm (fun b o e => seen s₂ hk b o (baseP b o e) (J.bk b o e)) gl2) (fun y s3 r => ⟨⟨cc, hcc, r.1⟩, r.2⟩) fun _ _ e => e
    · intro g h5 tk5 gst hgb hag hsz5 hk5 W5 hat
      have ep : passing (fun _ : Nat => true) a.cps.size 0 = List.range a.cps.size := GxR.passing_true a.cps.size
      simp only [ep, List.length_range] at W5
      refine fin a H1 g _ r ⟨_, _, _, _, _, W5.in4_1, hat, ?_, fun s' hm => ?_⟩
      · intro j y sj Qj Ej hy hQj
        obtain ⟨i, hij, cc, hcc, rfl⟩ := hy
        obtain ⟨hj, ej⟩ := List.getElem?_eq_some_iff.mp hij
        rw [List.getElem_range] at ej
        subst ej
        have e9 : a.cps.toList[j]? = some cc := by rw [Array.getElem?_toList]; exact hcc
        have hQ2 : Qj (trF pb a.cps.toList j) sj := hQj
        rw [trF_some e9] at hQ2
        exact wpAny_truthy_bool hQ2
      · obtain ⟨more, em⟩ := grown
        have nwr : ∀ b u, s1.heap.get? b = some u → b ∉ h3.objs.size :: [s1.heap.objs.size] := fun b u e hb => by
          have hl := Heap.lt_size e
          rcases List.mem_cons.mp hb with z | z
          · have h9 : (h3.objs.size : Nat) < s1.heap.objs.size := by rw [z] at hl; exact hl
            omega
          · exact Nat.ne_of_lt hl (List.mem_singleton.mp z)
        have after := inv_tab (more := more) (h' := s'.heap) (g' := s'.gens) (d' := s'.drawn) (t' := s'.toks) J tP (fun b u hb e => hm.heap b u (nwr b u e) (hk5 b u (kept b u hb e)))
          (by rw [← em]; exact hm.heap P _ (nwr P _ atP) (hk5 P _ atP3)) (AllBare.movedS (J.bare.push hgb) hm)
        rw [sh_eta s1 s' hm.os] at after
        exact ⟨upd H1 P (.tbl (ps ++ more)), ⟨⟨ps ++ more, upd_same, by rw [← em]; exact trip3⟩, fun b hb => upd_ne hb⟩, after⟩
  refine ⟨lim, ?_⟩
  cases hf : codeAmong gpos ps.toList with
  | none =>
    refine wpAny_genexprCodeX code (head.code atP' trip) (head.tab atP') hf fun c' h' tk hx hge hlt hco' _ htab' _ => ?_
    obtain ⟨o1, vs, f1, tf, fl, tg, inF, tx, tt, op, _, _, _, _, _, _, _, _, _, htr, _⟩ := hco'
    exact after _ h' tk _ hx (Nat.le_trans hge (Nat.le_of_lt hlt)) htab'.2 ⟨_, rfl⟩ htr
  | some cv =>
    refine wpAny_genexprCode_hit code (head.code atP' trip) hf ?_
    exact after cv (s1.heap.push o) s1.toks ps (Heap.ExtBut.refl _ _) (Nat.le_refl _) atP' ⟨#[], by simp⟩ trip
theorem pe_allG {c P : Addr} {elt iter : Expr} {x : Str} {px p pos gpos : Pos} {scope : Scope} {pb : Nat → Bool} {te : TE} {k : Nat}
    (room : Room k X.A) (hg : Gl X "all") (hm : X.mg "all" = none) (tb : TabB X.base X.mg c P) (code : X.env.code = .ref c) (gs : GenS X.env scope x) (it : PE X iter te) (el : EltG X scope x elt pb)
    (fold : ∀ v, genFold iter X.env v = pure v := by intro _; rfl)
    (he : starEach [.GeneratorExp elt [⟨.Name x px, iter, [], 0⟩] scope gpos] X.env = (false, eval (.GeneratorExp elt [⟨.Name x px, iter, [], 0⟩] scope gpos) X.env) :: starEach [] X.env := by rfl) :
    PE X (.Call (.Name "all" p) [.GeneratorExp elt [⟨.Name x px, iter, [], 0⟩] scope gpos] [] pos) (tAllS P pb te) := by
  refine ⟨fun pins s σ H Q I h => ?_⟩
  refine wpAny_Call_Name_kw (ld_blt (u := .builtin "all") I hg hm (by decide +kernel) ?_)
  refine PyProof.Rows.callWith_builtin1 ?_ he (by rfl)
  rw [he]
  show wpAny _ _ (spliced ((false, eval (.GeneratorExp elt [⟨.Name x px, iter, [], 0⟩] scope gpos) X.env) :: backTo pos (starEach [] X.env))) _ _ s
  refine Calls.spliced_cons (gen_G (R := fun a H1 => ∀ H2, Tabbed P H1 H2 → Q (.bl (a.cps.toList.all pb)) H2) room tb code gs it el fold I h fun a H1 g s5 hR hG => ?_)
  obtain ⟨fp, wr, G, F, St, W, hst, htr, hI⟩ := hG
  refine Calls.spliced_nil ?_
  refine call_all_walkS (W.self 0 _ _ _ hst ⟨g, fp, wr, G, _, F, St, _, rfl, W, hst, htr, fun s' hmv => ?_⟩)
  obtain ⟨H2, hT, J⟩ := hI s' hmv
  refine ⟨.bl _, H2, J, rfl, ?_⟩
  rw [all_signs a pb]
  exact hR H2 hT
end
end Gx

set_option Elab.async false
set_option linter.all false
set_option maxRecDepth 100000
set_option maxHeartbeats 2000000
/-! What all these proofs share: a def by its name, kinds of things, the pen that draws. -/
namespace Gx
open PySem PySem.Spec PyProof.Rows L2 GxR
/-! ### a def of the module, by its name -/
structure Dn (P : Program) (w : World) (K : PySem.W.Frag) (mg : Str → Option Value) (base : Heap) (k : Nat) (x : Str) (ps : List Str) (sp : Sp) : Prop where
  ex : ∃ (f : Addr) (fd : FuncData), mg x = some (.ref f) ∧ PySem.W.keepIn K (.ref f) = true ∧ Binds K fd ps [] ∧ FnOk P w K mg base CX0 k f fd ps sp
section
variable {X : Cx} {k : Nat} {x : Str} {ps : List Str} {sp : Sp} {p pos : Pos} {e : Expr} {es : List Expr} {t : TA}
theorem pe_dn (D : Dn X.prog X.w X.K X.mg X.base k x ps sp) (hr : Room k X.A) (hg : Gl X x) (ha : PA X (e :: es) t) (hdb : (x == ("__debug__" : Str)) = false := by decide)
    (he : starEach (e :: es) X.env = (false, eval e X.env) :: starEach es X.env := by rfl) (hpl : (backTo pos (starEach es X.env)).any (·.1) = false := by rfl) :
    PE X (.Call (.Name x p) (e :: es) [] pos) (tCall sp [] E0 t) := by
  obtain ⟨f, fd, hm, hk, hb, F⟩ := D.ex
  exact pe_call F hr hg hm hk hb .nil pass0 ha hdb he hpl
theorem pe_dn0 (D : Dn X.prog X.w X.K X.mg X.base k x ps sp) (hr : Room k X.A) (hg : Gl X x) (hdb : (x == ("__debug__" : Str)) = false := by decide) :
    PE X (.Call (.Name x p) [] [] pos) (tCall sp [] E0 tNil) := by
  obtain ⟨f, fd, hm, hk, hb, F⟩ := D.ex
  exact pe_call0 F hr hg hm hk hb .nil pass0 hdb
end
section
variable {P : Program} {w : World} {K : PySem.W.Frag} {mg : Str → Option Value} {base : Heap}
/-- a def whose code object is told -/
theorem okC {x qual : Str} {params : Arguments} {body : List Stmt} {scope : Scope} {dvs : List V} {kws : List (Str × V)} {d : He.Defn} {fd : FuncData} {CX : CXT} {N ps : List Str} {k : Nat} {sp : Sp}
    (F : FunD K x qual params body scope dvs kws (He.fAd K d) fd) (S : FnScope N ps scope) (len : ∀ vs H Q E, sp vs H Q E → vs.length = ps.length)
    (hbody : ∀ (c : Value) (A : Around) (outer : List Env) (s : Shared) (H : Hp) (vs : List V) (Q : VK) (E : XK), c = .ref (He.codeOf K d) → Room k (A.deeper (envOfC qual scope s.heap.objs.size (He.fAd K d) c)) → sp vs H Q E →
      ∃ t, PSs (cxOf CX P w K mg base N qual scope (He.fAd K d) c A outer s H E) body t ∧ t { nx := fun _ H' => Q .non H', rt := Q } (start N vs) H) : FnOk P w K mg base CX (k + 1) (He.fAd K d) fd ps sp := by
  obtain ⟨oc, od, dV, kV, doc, pm, an, cdv, ct, osl, rfl, lk, hcd, _, _⟩ := F.ex
  obtain ⟨c, rfl⟩ := He.codeIn_ref hcd
  exact fn_of lk hcd S len fun A outer s H vs Q E hr hsp => hbody _ A outer s H vs Q E (congrArg Value.ref (He.codeOf_eq lk rfl).symm) hr hsp
end
theorem iteNb {b : Bool} {A B : Prop} (h1 : b = false → A) (h2 : b = true → B) : if (!b) = true then A else B := by
  cases b with
  | false => exact h1 rfl
  | true => exact iteF (h2 rfl)
theorem iteB {b : Bool} {A B : Prop} (h1 : b = true → A) (h2 : b = false → B) : if b = true then A else B := by
  cases b with
  | true => exact h1 rfl
  | false => exact iteF (h2 rfl)
theorem at_any {α : Type} {xs : List α} {z : Int} {j : Nat} {v : α} (e : z = (j : Int)) (h : xs[j]? = some v) : atI xs z = some v := by
  rw [e]
  exact atI_nat h
/-- two ways that meet again with some number -/
theorem viaInt {A : Prop} {R : Int → Prop} (h : (∀ c, R c) → A) (r : ∀ c, R c) : A := h r
section
variable {P : Program} {w : World} {K : PySem.W.Frag} {mg : Str → Option Value} {base : Heap} {x qual : Str} {params : Arguments} {body : List Stmt} {scope : Scope} {dvs : List V} {kws : List (Str × V)} {N ps : List Str} {k : Nat} {sp : Sp}
/-- a def that raises nothing -/
theorem okN {f : Addr} {fd : FuncData} {CX : CXT} (F : FunD K x qual params body scope dvs kws f fd) (S : FnScope N ps scope) (len : ∀ vs H Q E, sp vs H Q E → vs.length = ps.length)
    (hbody : ∀ (c : Value) (A : Around) (outer : List Env) (s : Shared) (H : Hp) (vs : List V) (Q : VK) (E : XK), Room k (A.deeper (envOfC qual scope s.heap.objs.size f c)) → sp vs H Q E →
      ∃ t, PSs (cxOf CX P w K mg base N qual scope f c A outer s H E).nox body t ∧ t { nx := fun _ H' => Q .non H', rt := Q } (start N vs) H) : FnOk P w K mg base CX (k + 1) f fd ps sp :=
  F.ok S len fun c A outer s H vs Q E hr h => let ⟨t, ht, q⟩ := hbody c A outer s H vs Q E hr h; ⟨t, ht.nox, q⟩
theorem okCN {d : He.Defn} {fd : FuncData} {CX : CXT} (F : FunD K x qual params body scope dvs kws (He.fAd K d) fd) (S : FnScope N ps scope) (len : ∀ vs H Q E, sp vs H Q E → vs.length = ps.length)
    (hbody : ∀ (c : Value) (A : Around) (outer : List Env) (s : Shared) (H : Hp) (vs : List V) (Q : VK) (E : XK), c = .ref (He.codeOf K d) → Room k (A.deeper (envOfC qual scope s.heap.objs.size (He.fAd K d) c)) → sp vs H Q E →
      ∃ t, PSs (cxOf CX P w K mg base N qual scope (He.fAd K d) c A outer s H E).nox body t ∧ t { nx := fun _ H' => Q .non H', rt := Q } (start N vs) H) : FnOk P w K mg base CX (k + 1) (He.fAd K d) fd ps sp :=
  okC F S len fun c A outer s H vs Q E hc hr h => let ⟨t, ht, q⟩ := hbody c A outer s H vs Q E hc hr h; ⟨t, ht.nox, q⟩
end
/-- a generator's scope that takes nothing from the def around it -/
theorem gs_plain {env : Env} {scope : Scope} {x : Str} (h1 : scope.kind = .function) (h2 : scope.isCoroutine = false) (h3 : scope.names.lookup (".0" : Str) = some NameKind.local) (h4 : scope.names.lookup x = some .local)
    (h5 : (scope.names.all fun y => decide (y.2 ≠ .cell) && decide (y.2 ≠ .free)) = true) : GenS env scope x := by
  have h6 := List.all_eq_true.mp h5
  refine ⟨h1, h2, fun y hy => ?_, h3, h4, fun y hy e => ?_⟩
  · have h7 := h6 y hy
    rw [Bool.and_eq_true] at h7
    exact of_decide_eq_true h7.1
  · have h7 := h6 y hy
    rw [Bool.and_eq_true] at h7
    exact absurd e (of_decide_eq_true h7.2)
/-! ### text * number -/
theorem op_mul_str {X : Cx} : OpR X (binaryOp .Mult) (fun x y H Q => ∃ (z : Str) (n : Int), x = .str z ∧ y = .int n ∧ MulOk z n ∧ Q (.str (Txt.mul z n)) H) := by
  intro pins s σ H x y v u Q I rx ry h
  obtain ⟨z, n, rfl, rfl, ok, q⟩ := h
  obtain ⟨t, rfl⟩ := rx
  obtain ⟨t', rfl⟩ := ry
  exact SB.mul ok fun t2 k => ⟨.str _, H, I.tok k, ⟨_, rfl⟩, q⟩
theorem mulOk {z : Str} {n : Int} (h1 : z.length ≤ 1000) (h2 : 0 ≤ n) (h3 : n ≤ 1000) : MulOk z n := by
  refine ⟨?_, fun h4 _ => ?_, fun h4 _ => ?_⟩
  · have a1 : ¬ n < -(2 ^ 63 : Int) := by omega
    have a2 : ¬ n ≥ 2 ^ 63 := by omega
    rw [decide_eq_false a1, decide_eq_false a2] <;> rfl
  · have h6 : (z.length : Int) * n ≤ 1000 * 1000 := Int.mul_le_mul (by omega) h3 h2 (by decide)
    have h5 : (z.length : Int) ≤ (2 ^ 63 - 1) / n := Int.le_ediv_of_mul_le (by omega) (by omega)
    omega
  · have h6 : z.length * n.toNat ≤ 1000 * 1000 := Nat.mul_le_mul h1 (by omega)
    show decide (z.length * n.toNat > sizeLine) = false
    exact decide_eq_false (by rw [sizeLine_eq]; omega)
/-! ### kinds of things -/
/-- a thing that the laws hand in: its type is known -/
inductive Th (H : Hp) : V → Prop where
  | non : Th H .non
  | bl (b : Bool) : Th H (.bl b)
  | int (i : Int) : Th H (.int i)
  | str (z : Str) : Th H (.str z)
  | lst {a : Addr} {xs : List V} (e : H a = some (.lst xs)) : Th H (.ref a)
  | tup {a : Addr} {xs : List V} (e : H a = some (.tup xs)) : Th H (.ref a)
  | dK {a : Addr} {kvs : List (Key × V)} (e : H a = some (.dK kvs)) : Th H (.ref a)
def isStr : V → Bool
  | .str _ => true
  | _ => false
def isBl : V → Bool
  | .bl _ => true
  | _ => false
theorem Th.str_ {K : PySem.W.Frag} {H : Hp} {v : V} (h : Th H v) : ∃ t, TyX K H v t ∧ PySem.W.kitOne K t (.type "str") = some (isStr v) := by
  cases h with
  | non => exact ⟨_, .base .non, kit_ty (r := false) (by decide +kernel)⟩
  | bl b => exact ⟨_, .base (.bl b), kit_ty (r := false) (by decide +kernel)⟩
  | int i => exact ⟨_, .base (.int i), kit_ty (r := false) (by decide +kernel)⟩
  | str z => exact ⟨_, .base (.str z), kit_ty (r := true) (by decide +kernel)⟩
  | lst e => exact ⟨_, .base (.lst e), kit_ty (r := false) (by decide +kernel)⟩
  | tup e => exact ⟨_, .base (.tup e), kit_ty (r := false) (by decide +kernel)⟩
  | dK e => exact ⟨_, .base (.dK e), kit_ty (r := false) (by decide +kernel)⟩
/-! ### names -/
def LETS : Str := "abcdefghijklmnopqrstuvwxyz"
def FIGS : Str := "0123456789"
def isLet (c : Nat) : Bool := decide (c ∈ LETS.cps.toList)
def isFig (c : Nat) : Bool := decide (c ∈ FIGS.cps.toList)
def nameB (z : Str) : Bool := decide (1 ≤ (z.length : Int)) && (decide ((z.length : Int) ≤ 8) && ((match z.cps.toList with
  | [] => false
  | c :: _ => isLet c) && z.cps.toList.all fun c => isLet c || isFig c))
def nameV : V → Bool
  | .str z => nameB z
  | _ => false
theorem nameV_no {v : V} (h : isStr v = false) : nameV v = false := by
  cases v <;> first | rfl | cases h
theorem cps_len (z : Str) : z.cps.toList.length = z.length := by simp [Str.length]
theorem head_of {z : Str} (h : 1 ≤ (z.length : Int)) : ∃ c r, z.cps.toList = c :: r := by
  have hl := cps_len z
  cases e : z.cps.toList with
  | nil =>
    rw [e] at hl
    have h1 : (0 : Nat) = z.length := hl
    omega
  | cons c r => exact ⟨c, r, rfl⟩
theorem all_id {l : List Nat} {pb : Nat → Bool} : (l.map pb).all id = l.all pb := by
  rw [List.all_map] <;> rfl
theorem both_lets (c : Nat) : decide (c ∈ (LETS ++ FIGS).cps.toList) = (isLet c || isFig c) := by
  have e : (LETS ++ FIGS).cps.toList = LETS.cps.toList ++ FIGS.cps.toList := by
    show (LETS.cps ++ FIGS.cps).toList = _
    rw [Array.toList_append]
  unfold isLet isFig
  rw [e, Bool.eq_iff_iff, decide_eq_true_eq, List.mem_append, Bool.or_eq_true, decide_eq_true_eq, decide_eq_true_eq]
/-- a list over a text's signs -/
theorem lc_str {z : Str} {g : TG} {tt : TT} {te : TE} {vs : List Nat} {σ : L2.St} {H1 : Hp} {D : Addr} {Qd : Hp → Prop} (Pv : Nat → Hp → Prop) (h0 : Pv 0 (upd H1 D (.lst [])))
    (hs : ∀ i c H, z.cps.toList[i]? = some c → Pv i H → g (.str ⟨#[c]⟩) (wipe σ vs) H fun σ2 H2 => wipe σ2 vs = wipe σ vs ∧ tt σ2 H2 fun b H3 =>
      if b = true then te σ2 H3 fun y H4 => ∃ acc, H4 D = some (.lst acc) ∧ acc.length < sizeLine ∧ Pv (i + 1) (upd H4 D (.lst (acc ++ [y]))) else Pv (i + 1) H3) (hd : ∀ H, Pv z.cps.toList.length H → Qd H) :
    ∃ W : Nat → Nat → Hp → Prop, (∃ m, W 0 m (upd H1 D (.lst []))) ∧ ∀ i m H, W i m H →
      ((Its z).stop i H ∧ Qd H) ∨ ((Its z).go i H ∧ ∃ Nx : Hp → Prop, (∀ H', Nx H' → ∃ m', m' < m ∧ W (i + 1) m' H') ∧ ∀ x H', (Its z).yld i H x H' → g x (wipe σ vs) H' fun σ2 H2 => wipe σ2 vs = wipe σ vs ∧ tt σ2 H2 fun b H3 =>
        if b = true then te σ2 H3 fun y H4 => ∃ acc, H4 D = some (.lst acc) ∧ acc.length < sizeLine ∧ Nx (upd H4 D (.lst (acc ++ [y]))) else Nx H3) := by
  have el : z.cps.toList.length = z.cps.size := Array.length_toList
  refine ⟨fun i m H => m = z.cps.size - i ∧ i ≤ z.cps.size ∧ Pv i H, ⟨_, rfl, Nat.zero_le _, h0⟩, ?_⟩
  rintro i m H ⟨rfl, hi, pv⟩
  rcases Nat.lt_or_ge i z.cps.size with lt | ge
  · refine .inr ⟨lt, Pv (i + 1), fun H' q => ⟨_, Nat.sub_succ_lt_self _ _ lt, rfl, lt, q⟩, ?_⟩
    rintro x H' ⟨rfl, c, ec, rfl⟩
    exact hs i c _ (by rw [Array.getElem?_toList]; exact ec) pv
  · obtain rfl : i = z.cps.size := Nat.le_antisymm hi ge
    exact .inl ⟨Nat.le_refl _, hd H (by rw [el]; exact pv)⟩
theorem bls_take {l : List Nat} {pb : Nat → Bool} {i c : Nat} (h : l[i]? = some c) : (l.take (i + 1)).map pb = (l.take i).map pb ++ [pb c] := by
  rw [List.take_add_one, h, List.map_append] <;> rfl
/-! ### the pen -/
structure Pen (H : Hp) (p L : Addr) (ns : List Int) (n : Nat) : Prop where
  at_ : ∃ a r : Int, H p = some (.lst [.ref L, .int a, .int r]) ∧ 0 ≤ a ∧ a ≤ n
  ls : H L = some (.lst (ns.map V.int))
  few : ns.length ≤ 63
theorem Pen.ne {H : Hp} {p L : Addr} {ns : List Int} {n : Nat} (h : Pen H p L ns n) : p ≠ L := by
  intro e
  obtain ⟨a, r, h1, _⟩ := h.at_
  have h2 := h.ls
  rw [← e, h1] at h2
  have h3 := HO.lst.inj (Option.some.inj h2)
  cases ns with
  | nil => cases h3
  | cons z r => cases (List.cons.inj h3).1
theorem Pen.up {H : Hp} {p L : Addr} {ns : List Int} {n m : Nat} (h : Pen H p L ns n) (hm : n ≤ m) : Pen H p L ns m := by
  obtain ⟨⟨a, r, h1, h2, h3⟩, h4, h5⟩ := h
  exact ⟨⟨a, r, h1, h2, by omega⟩, h4, h5⟩
/-- set anew -/
theorem Pen.put {H : Hp} {p L : Addr} {ns : List Int} {n m : Nat} {a r : Int} (h : Pen H p L ns n) (h1 : 0 ≤ a) (h2 : a ≤ m) : Pen (upd H p (.lst [.ref L, .int a, .int r])) p L ns m :=
  ⟨⟨a, r, upd_same, h1, h2⟩, by rw [upd_ne h.ne.symm]; exact h.ls, h.few⟩
theorem Pen.keep {H H' : Hp} {p L : Addr} {ns : List Int} {n : Nat} (h : Pen H p L ns n) (hp : H' p = H p) (hl : H' L = H L) : Pen H' p L ns n := by
  obtain ⟨⟨a, r, h1, h2, h3⟩, h4, h5⟩ := h
  exact ⟨⟨a, r, by rw [hp]; exact h1, h2, h3⟩, by rw [hl]; exact h4, h5⟩
theorem Pen.keep' {H H' : Hp} {p L : Addr} {ns : List Int} {n : Nat} (h : Pen H p L ns n) (k : Same H H') : Pen H' p L ns n := by
  obtain ⟨⟨a, r, h1, h2, h3⟩, h4, h5⟩ := h
  exact ⟨⟨a, r, k _ _ h1, h2, h3⟩, k _ _ h4, h5⟩
/-- only the pen has changed -/
def But (p : Addr) (H H' : Hp) : Prop := ∀ b, b ≠ p → H' b = H b
theorem But.refl {p : Addr} {H : Hp} : But p H H := fun _ _ => rfl
theorem But.trans {p : Addr} {H H1 H2 : Hp} (a : But p H H1) (b : But p H1 H2) : But p H H2 := fun c h => (b c h).trans (a c h)
theorem But.upd {p : Addr} {H : Hp} {o : HO} : But p H (upd H p o) := fun _ h => upd_ne h
theorem strAt {z : Str} {k : Int} (h0 : 0 ≤ k) (h1 : k < (z.length : Int)) : ∃ c, atI z.cps.toList k = some c := by
  obtain ⟨j, rfl⟩ : ∃ j : Nat, k = (j : Int) := ⟨_, (Int.toNat_of_nonneg h0).symm⟩
  have hj : j < z.cps.toList.length := by rw [cps_len]; omega
  exact ⟨_, atI_nat (List.getElem?_eq_getElem hj)⟩
theorem listAt {xs : List V} {k : Int} (h0 : 0 ≤ k) (h1 : k < (xs.length : Int)) : ∃ v, atI xs k = some v ∧ v ∈ xs := by
  obtain ⟨j, rfl⟩ : ∃ j : Nat, k = (j : Int) := ⟨_, (Int.toNat_of_nonneg h0).symm⟩
  have hj : j < xs.length := by omega
  exact ⟨_, atI_nat (List.getElem?_eq_getElem hj), List.getElem_mem hj⟩
/-- what was tracked, but for the pen, is as it was -/
def Kp (p : Addr) (H H' : Hp) : Prop := ∀ b o, H b = some o → b ≠ p → H' b = some o
theorem Kp.refl {p : Addr} {H : Hp} : Kp p H H := fun _ _ h _ => h
theorem Kp.trans {p : Addr} {H H1 H2 : Hp} (a : Kp p H H1) (b : Kp p H1 H2) : Kp p H H2 := fun c o h n => b c o (a c o h n) n
theorem But.kp {p : Addr} {H H' : Hp} (a : But p H H') : Kp p H H' := fun b o h n => (a b n).trans h
theorem Kp.new {p D : Addr} {H : Hp} {o : HO} (h : H D = none) : Kp p H (upd H D o) := fun b u e _ => by rw [upd_ne (ne_of_none e h)]; exact e
theorem Pen.new {H : Hp} {p L D : Addr} {ns : List Int} {n : Nat} {o : HO} (h : Pen H p L ns n) (hD : H D = none) : Pen (upd H D o) p L ns n := by
  obtain ⟨a, r, h1, _⟩ := h.at_
  exact h.keep (upd_ne (ne_of_none h1 hD)) (upd_ne (ne_of_none h.ls hD))
theorem Pen.lt_new {H : Hp} {p L D : Addr} {ns : List Int} {n : Nat} (h : Pen H p L ns n) (hD : H D = none) : D ≠ p := by
  obtain ⟨a, r, h1, _⟩ := h.at_
  exact (ne_of_none h1 hD).symm
theorem cut63 {xs : List V} (h : xs.length ≤ 63) : cutV xs none (some 63) = xs := by
  unfold cutV
  rw [HT.sIx_none, show HT.sIx xs.length xs.length (some 63) = min 63 xs.length from HT.sIx_nat xs.length xs.length 63, Nat.min_eq_right h, Nat.sub_zero, List.drop_zero]
  exact List.take_length
theorem len_add (a b : Str) : (a ++ b).length = a.length + b.length := by
  show (a.cps ++ b.cps).size = _
  rw [Array.size_append] <;> rfl
theorem len_one (c : Nat) : (⟨#[c]⟩ : Str).length = 1 := rfl
theorem ones_sum : ∀ {ys : List Str}, (∀ y ∈ ys, y.length = 1) → (ys.map (·.length)).sum = ys.length
  | [], _ => rfl
  | y :: r, h => by
    have ih := ones_sum (ys := r) fun z hz => h z (List.mem_cons_of_mem _ hz)
    have h1 := h y List.mem_cons_self
    show (y.length :: r.map (·.length)).sum = r.length + 1
    rw [List.sum_cons, ih, h1]
    omega
theorem ones_join {ys : List Str} (h : ∀ y ∈ ys, y.length = 1) : (Txt.join ("" : Str) ys).length ≤ ys.length := by
  have h2 := StrLaws.join_length_le ("" : Str) ys
  rw [ones_sum h, show ("" : Str).length = 0 by decide +kernel, Nat.mul_zero, Nat.add_zero] at h2
  rw [show Txt.join ("" : Str) ys = Str.join ("" : Str) ys from StrLaws.glued_eq_join ("" : Str) ys]
  exact h2
theorem mul_len {z : Str} (h : z.length ≤ 20) : (Txt.mul z 2).length ≤ 40 := by
  unfold Txt.mul
  rw [if_neg (by decide)]
  split
  · omega
  · show ((List.replicate 2 z.cps).foldl (· ++ ·) #[]).size ≤ 40
    show ((#[] ++ z.cps) ++ z.cps).size ≤ 40
    rw [Array.size_append, Array.size_append]
    have h2 : z.cps.size ≤ 20 := h
    show 0 + z.cps.size + z.cps.size ≤ 40
    omega
/-- what was tracked, but for a table, is as it was -/
theorem Th.kt {H H' : Hp} {P' : Addr} {v : V} (h : Th H v) (g : TabG H P') (k : ∀ b o, H b = some o → b ≠ P' → H' b = some o) : Th H' v := by
  obtain ⟨ps, g, _⟩ := g
  cases h with
  | non => exact .non
  | bl b => exact .bl b
  | int i => exact .int i
  | str z => exact .str z
  | lst e => exact .lst (k _ _ e (ne_of e g (fun q => by cases q)))
  | tup e => exact .tup (k _ _ e (ne_of e g (fun q => by cases q)))
  | dK e => exact .dK (k _ _ e (ne_of e g (fun q => by cases q)))
theorem tabbedKt {P' : Addr} {H H' : Hp} (h : Tabbed P' H H') : ∀ b o, H b = some o → b ≠ P' → H' b = some o := fun b o e n => (h.2 b n).trans e
theorem Pen.kt {H H' : Hp} {p L P' : Addr} {ns : List Int} {n : Nat} (h : Pen H p L ns n) (g : TabG H P') (k : ∀ b o, H b = some o → b ≠ P' → H' b = some o) : Pen H' p L ns n := by
  obtain ⟨ps, g, _⟩ := g
  obtain ⟨⟨a, r, h1, h2, h3⟩, h4, h5⟩ := h
  exact ⟨⟨a, r, k _ _ h1 (ne_of h1 g (fun q => by cases q)), h2, h3⟩, k _ _ h4 (ne_of h4 g (fun q => by cases q)), h5⟩
theorem tabSame {P' : Addr} {H H' : Hp} (g : TabG H P') (k : Same H H') : TabG H' P' := by
  obtain ⟨ps, g, t⟩ := g
  exact ⟨ps, k _ _ g, t⟩
theorem tabKp {p P' : Addr} {H H' : Hp} {a : List V} (g : TabG H P') (hp : H p = some (.lst a)) (k : Kp p H H') : TabG H' P' := by
  obtain ⟨ps, g, t⟩ := g
  exact ⟨ps, k _ _ g (ne_of g hp (fun q => by cases q)), t⟩
theorem Pen.tab {H H' : Hp} {p L P' : Addr} {ns : List Int} {n : Nat} (h : Pen H p L ns n) (g : TabG H P') (k : Kp p H H') : TabG H' P' := by
  obtain ⟨a, r, h1, _⟩ := h.at_
  exact tabKp g h1 k
theorem same_new {D : Addr} {H : Hp} {o : HO} (h : H D = none) : Same H (upd H D o) := fun b u e => by rw [upd_ne (ne_of_none e h)]; exact e
theorem sameKp {p : Addr} {H H' : Hp} (h : Same H H') : Kp p H H' := fun b o e _ => h b o e
/-- a thing of known type, a text that is not too long -/
def Ok1 (H : Hp) (v : V) : Prop := Th H v ∧ ∀ z, v = .str z → z.length ≤ sizeLine
theorem Th.same {H H' : Hp} {v : V} (h : Th H v) (k : Same H H') : Th H' v := by
  cases h with
  | non => exact .non
  | bl b => exact .bl b
  | int i => exact .int i
  | str z => exact .str z
  | lst e => exact .lst (k _ _ e)
  | tup e => exact .tup (k _ _ e)
  | dK e => exact .dK (k _ _ e)
theorem ok_str {H : Hp} {z : Str} (h : z.length ≤ sizeLine) : Ok1 H (.str z) := ⟨.str z, fun _ e => by cases e; exact h⟩
theorem ok_ref {H : Hp} {a : Addr} (h : Th H (.ref a)) : Ok1 H (.ref a) := ⟨h, fun _ e => nomatch e⟩
def spDraw : Sp := fun vs H Q _ => ∃ (p L : Addr) (ns : List Int) (n : Nat) (many : Int), vs = [.ref p, .int many] ∧ Pen H p L ns n ∧ 0 < many ∧ many < 1000000 ∧ n < 1000000 ∧
  ∀ (k : Int) (H' : Hp), 0 ≤ k → k < many → Pen H' p L ns (n + 1) → But p H H' → Q (.int k) H'
end Gx

set_option Elab.async false
set_option linter.all false
set_option maxRecDepth 100000
set_option maxHeartbeats 2000000
/-! Data of tuples alone: masters as the laws draw them, told by records. -/
namespace Gd
open PySem PySem.Spec PyProof.Rows L2 GxR Gx
mutual
/-- no list, no dict in it: nothing in it can change -/
def noL : PyData → Bool
  | .tuple ds => noLAll ds
  | .list _ => false
  | .dict _ => false
  | _ => true
def noLAll : List PyData → Bool
  | [] => true
  | d :: r => noL d && noLAll r
end
mutual
theorem dpT_keep {K : PySem.W.Frag} {H H' : Hp} (kt : ∀ a xs, SqT K H a xs → SqT K H' a xs) : ∀ {v : V} {d : PyData}, Dp K H v d → noL d = true → Dp K H' v d
  | _, _, .non, _ => .non
  | _, _, .bl b, _ => .bl b
  | _, _, .int i, _ => .int i
  | _, _, .str x, _ => .str x
  | _, _, .lst s h, n => by
    simp only [noL] at n
    cases n
  | _, _, .tup s h, n => by
    simp only [noL] at n
    exact .tup (kt _ _ s) (dpTAll_keep kt h n)
theorem dpTAll_keep {K : PySem.W.Frag} {H H' : Hp} (kt : ∀ a xs, SqT K H a xs → SqT K H' a xs) : ∀ {vs : List V} {ds : List PyData}, DpAll K H vs ds → noLAll ds = true → DpAll K H' vs ds
  | _, _, .nil, _ => .nil
  | _, _, .cons h t, n => by
    simp only [noLAll, Bool.and_eq_true] at n
    exact .cons (dpT_keep kt h n.1) (dpTAll_keep kt t n.2)
end
theorem noL_all : ∀ {ds : List PyData}, (∀ d ∈ ds, noL d = true) → noLAll ds = true
  | [], _ => by simp only [noLAll]
  | d :: r, h => by simp only [noLAll, h d List.mem_cons_self, noL_all fun x hx => h x (List.mem_cons_of_mem _ hx), Bool.and_self]
section
variable {K : PySem.W.Frag} {H : Hp}
theorem dp_tup {v : V} {ds : List PyData} (h : Dp K H v (.tuple ds)) : ∃ a xs, v = .ref a ∧ SqT K H a xs ∧ DpAll K H xs ds := by
  cases h with
  | tup s h => exact ⟨_, _, rfl, s, h⟩
theorem dp_str {v : V} {z : Str} (h : Dp K H v (.str z)) : v = .str z := by
  cases h
  rfl
theorem dp_int {v : V} {i : Int} (h : Dp K H v (.int i)) : v = .int i := by
  cases h
  rfl
theorem dp_non {v : V} (h : Dp K H v .none) : v = .non := by
  cases h
  rfl
theorem dpAll_len : ∀ {xs : List V} {ds : List PyData}, DpAll K H xs ds → xs.length = ds.length
  | _, _, .nil => rfl
  | _, _, .cons _ t => congrArg (· + 1) (dpAll_len t)
theorem dpAll_get : ∀ {xs : List V} {ds : List PyData} {i : Nat} {d : PyData}, DpAll K H xs ds → ds[i]? = some d → ∃ x, xs[i]? = some x ∧ Dp K H x d
  | _, _, 0, _, .cons h _, e => ⟨_, rfl, by cases e; exact h⟩
  | _, _, i + 1, _, .cons _ t, e => dpAll_get (i := i) t e
  | _, _, _, _, .nil, e => by cases e
theorem dpAll_of : ∀ {xs : List V} {ds : List PyData} {i : Nat} {x : V}, DpAll K H xs ds → xs[i]? = some x → ∃ d, ds[i]? = some d ∧ Dp K H x d
  | _, _, 0, _, .cons h _, e => ⟨_, rfl, by cases e; exact h⟩
  | _, _, i + 1, _, .cons _ t, e => dpAll_of (i := i) t e
  | _, _, _, _, .nil, e => by cases e
theorem dpAll_app : ∀ {xs ys : List V} {ds es : List PyData}, DpAll K H xs ds → DpAll K H ys es → DpAll K H (xs ++ ys) (ds ++ es)
  | _, _, _, _, .nil, h => h
  | _, _, _, _, .cons h t, h2 => .cons h (dpAll_app t h2)
theorem dpAll_take : ∀ {xs : List V} {ds : List PyData} (n : Nat), DpAll K H xs ds → DpAll K H (xs.take n) (ds.take n)
  | _, _, 0, _ => .nil
  | _, _, _ + 1, .nil => .nil
  | _, _, n + 1, .cons h t => .cons h (dpAll_take n t)
theorem dpAll_drop : ∀ {xs : List V} {ds : List PyData} (n : Nat), DpAll K H xs ds → DpAll K H (xs.drop n) (ds.drop n)
  | _, _, 0, h => h
  | _, _, _ + 1, .nil => .nil
  | _, _, n + 1, .cons _ t => dpAll_drop n t
theorem dpAll_strs : ∀ l : List Str, DpAll K H (l.map V.str) (l.map PyData.str)
  | [] => .nil
  | z :: r => .cons (.str z) (dpAll_strs r)
end
/-! ### records -/
structure PlM where
  name : Str
  sets : List (Str × PyData)
  text : Option (List Str)
def PlM.d (p : PlM) : PyData := .tuple [.str p.name, .tuple (p.sets.map fun s => .tuple [.str s.1, s.2]), match p.text with
  | none => .none
  | some l => .tuple (l.map .str)]
structure MaM where
  name : Str
  over : Option Str
  own : List PlM
def MaM.d (m : MaM) : PyData := .tuple [.str m.name, match m.over with
  | none => .none
  | some z => .str z, .tuple (m.own.map PlM.d)]
/-- worths are whole numbers or texts -/
def flatW : PyData → Bool
  | .int _ => true
  | .str _ => true
  | _ => false
theorem flat_noL {d : PyData} (h : flatW d = true) : noL d = true := by
  cases d with
  | int i => simp only [noL]
  | str z => simp only [noL]
  | _ => cases h
theorem PlM.noL {p : PlM} (h : ∀ s ∈ p.sets, flatW s.2 = true) : Gd.noL p.d = true := by
  unfold PlM.d
  have h1 : noLAll (p.sets.map fun s => PyData.tuple [.str s.1, s.2]) = true := noL_all fun d hd => by
    obtain ⟨s, hs, rfl⟩ := List.mem_map.mp hd
    simp only [Gd.noL, noLAll, flat_noL (h s hs), Bool.and_self]
  have h2 : ∀ l : List Str, noLAll (l.map PyData.str) = true := fun l => noL_all fun d hd => by
    obtain ⟨z, _, rfl⟩ := List.mem_map.mp hd
    simp only [Gd.noL]
  cases p.text with
  | none => simp only [Gd.noL, noLAll, h1, Bool.and_self]
  | some l => simp only [Gd.noL, noLAll, h1, h2 l, Bool.and_self]
theorem MaM.noL {m : MaM} (h : ∀ p ∈ m.own, ∀ s ∈ p.sets, flatW s.2 = true) : Gd.noL m.d = true := by
  unfold MaM.d
  have h1 : noLAll (m.own.map PlM.d) = true := noL_all fun d hd => by
    obtain ⟨p, hp, rfl⟩ := List.mem_map.mp hd
    exact PlM.noL (h p hp)
  cases m.over with
  | none => simp only [Gd.noL, noLAll, h1, Bool.and_self]
  | some z => simp only [Gd.noL, noLAll, h1, Bool.and_self]
/-! ### traits and worths -/
def TRS : List Str := ["left", "top", "wide", "high", "size", "ink"]
def bnd (z : Str) : Int × Int := if z = "left" then (-999, 999) else if z = "top" then (-999, 999) else if z = "size" then (1, 99) else (1, 999)
/-- a right worth of the trait z -/
def wOk (z : Str) : PyData → Bool
  | .int i => !decide (z = "ink") && (decide ((bnd z).1 ≤ i) && decide (i ≤ (bnd z).2))
  | .str s => decide (z = "ink") && nameB s
  | _ => false
theorem wOk_flat {z : Str} {d : PyData} (h : wOk z d = true) : flatW d = true := by
  cases d with
  | int i => rfl
  | str s => rfl
  | _ => cases h
theorem wOk_int {z : Str} {i : Int} (n : z ≠ "ink") (h1 : (bnd z).1 ≤ i) (h2 : i ≤ (bnd z).2) : wOk z (.int i) = true := by
  show (!decide (z = "ink") && (decide ((bnd z).1 ≤ i) && decide (i ≤ (bnd z).2))) = true
  rw [decide_eq_false n, decide_eq_true h1, decide_eq_true h2] <;> rfl
/-! ### lines -/
def gSign (c : Nat) : Bool := !decide (c < 32) && (!decide (126 < c) && (!decide (c = 37) && !decide (c = 92)))
/-- signs that may stand in a line -/
def okS (z : Str) : Prop := ∀ c ∈ z.cps.toList, gSign c = true
instance (z : Str) : Decidable (okS z) := inferInstanceAs (Decidable (∀ c ∈ z.cps.toList, gSign c = true))
theorem okS_add {a b : Str} (ha : okS a) (hb : okS b) : okS (a ++ b) := fun c hc => by
  have hc : c ∈ (a.cps ++ b.cps).toList := hc
  rw [Array.toList_append] at hc
  exact (List.mem_append.mp hc).elim (ha c) (hb c)
theorem okS_cut {z : Str} {lo hi : Option Int} (h : okS z) : okS (cutS z lo hi) := fun c hc => by
  have hc : c ∈ ((z.cps.toList.drop (HT.sIx z.length 0 lo)).take (HT.sIx z.length z.length hi - HT.sIx z.length 0 lo)).toArray.toList := hc
  rw [List.toList_toArray] at hc
  exact h c (List.mem_of_mem_drop (List.mem_of_mem_take hc))
theorem okS_joinS {sep : Str} (hs : okS sep) : ∀ {ys : List Str}, (∀ y ∈ ys, okS y) → okS (Str.join sep ys)
  | [], _ => fun c hc => nomatch hc
  | [y], h => h y List.mem_cons_self
  | y :: z :: r, h => okS_add (okS_add (h y List.mem_cons_self) hs) (okS_joinS hs fun x hx => h x (List.mem_cons_of_mem _ hx))
theorem okS_join {sep : Str} (hs : okS sep) {ys : List Str} (h : ∀ y ∈ ys, okS y) : okS (Txt.join sep ys) := by
  rw [show Txt.join sep ys = Str.join sep ys from StrLaws.glued_eq_join sep ys]
  exact okS_joinS hs h
theorem sum_le {m : Nat} : ∀ {ys : List Str}, (∀ y ∈ ys, y.length ≤ m) → (ys.map (·.length)).sum ≤ ys.length * m
  | [], _ => Nat.zero_le _
  | y :: r, h => by
    have ih := sum_le (ys := r) fun z hz => h z (List.mem_cons_of_mem _ hz)
    have h1 := h y List.mem_cons_self
    rw [List.map_cons, List.sum_cons, List.length_cons, Nat.succ_mul]
    omega
theorem cut_le {z : Str} {k : Nat} : (cutS z none (some (k : Int))).length ≤ k := by
  show (((z.cps.toList.drop (HT.sIx z.length 0 none)).take (HT.sIx z.length z.length (some (k : Int)) - HT.sIx z.length 0 none)).toArray).size ≤ k
  rw [List.size_toArray, List.length_take, show HT.sIx z.length z.length (some (k : Int)) = min k z.length from HT.sIx_nat z.length z.length k]
  omega
/-! ### tuples stay -/
section
variable {K : PySem.W.Frag} {H H' : Hp}
theorem sqT_by {a : Addr} {xs : List V} (h : SqT K H a xs) (k1 : ∀ o, H a = some (.tup o) → H' a = some (.tup o)) (k2 : ∀ o u, H a = some (.frz o u) → H' a = some (.frz o u)) : SqT K H' a xs := by
  rcases h with (h | ⟨o, h⟩) | h
  · exact .inl (.inl (k1 _ h))
  · exact .inl (.inr ⟨o, k2 _ _ h⟩)
  · exact .inr h
theorem sqT_same {a : Addr} {xs : List V} (s : Same H H') (h : SqT K H a xs) : SqT K H' a xs := sqT_by h (fun _ e => s _ _ e) fun _ _ e => s _ _ e
theorem sqT_kp {p a : Addr} {xs ys : List V} (hp : H p = some (.lst ys)) (s : Kp p H H') (h : SqT K H a xs) : SqT K H' a xs :=
  sqT_by h (fun _ e => s _ _ e (ne_of e hp fun q => nomatch q)) fun o u e => s _ _ e (ne_of e hp fun q => nomatch q)
/-- tuples that stand at H stand at H' -/
def KT (K : PySem.W.Frag) (H H' : Hp) : Prop := ∀ a xs, SqT K H a xs → SqT K H' a xs
theorem KT.refl : KT K H H := fun _ _ h => h
theorem KT.trans {H2 : Hp} (a : KT K H H') (b : KT K H' H2) : KT K H H2 := fun _ _ h => b _ _ (a _ _ h)
theorem KT.same (s : Same H H') : KT K H H' := fun _ _ h => sqT_same s h
theorem KT.kp {p : Addr} {ys : List V} (hp : H p = some (.lst ys)) (s : Kp p H H') : KT K H H' := fun _ _ h => sqT_kp hp s h
theorem KT.pen {p L : Addr} {ns : List Int} {n : Nat} (hP : Pen H p L ns n) (s : Kp p H H') : KT K H H' := by
  obtain ⟨a, r, hp, _⟩ := hP.at_
  exact KT.kp hp s
theorem KT.put {D : Addr} {ys zs : List V} (hD : H D = some (.lst ys)) : KT K H (upd H D (.lst zs)) := KT.kp hD fun b o e n => (upd_ne n).trans e
end
/-! ### right records -/
def goodL (ls : List Str) : Prop := ls.length ≤ 12 ∧ ∀ z ∈ ls, z.length ≤ 60 ∧ okS z
structure OkPl (p : PlM) : Prop where
  right : ∀ s ∈ p.sets, s.1 ∈ TRS ∧ wOk s.1 s.2 = true
  once : (p.sets.map (·.1)).Nodup
  text : ∀ ls, p.text = some ls → goodL ls
theorem OkPl.noL {p : PlM} (h : OkPl p) : Gd.noL p.d = true := PlM.noL fun s hs => wOk_flat (h.right s hs).2
theorem take_more {α : Type} {l : List α} {i : Nat} {x : α} (h : l[i]? = some x) : l.take (i + 1) = l.take i ++ [x] := by
  rw [List.take_add_one, h] <;> rfl
end Gd

set_option Elab.async false
set_option linter.all false
set_option maxRecDepth 100000
set_option maxHeartbeats 2000000
/-! Names as the laws draw them: right ones, each once. -/
namespace Gn
open PySem PySem.Spec PyProof.Rows L2 GxR Gx Gd
def BEG : List Str := ["", "", "a", "z9", "title", "m0m0m0", "b"]
/-- what the last two letters of a name tell -/
def code2 (z : Str) : Nat := match z.cps.toList.reverse with
  | y :: x :: _ => (x - 97) * 26 + (y - 97)
  | _ => 0
theorem toL (b : Str) (x y : Nat) : ((b ++ ⟨#[x]⟩) ++ ⟨#[y]⟩ : Str).cps.toList = b.cps.toList ++ [x] ++ [y] := by
  show ((b.cps ++ #[x]) ++ #[y]).toList = _
  rw [Array.toList_append, Array.toList_append]
theorem code2_of (b : Str) {m : Nat} (h : m < 676) : code2 ((b ++ ⟨#[97 + m / 26]⟩) ++ ⟨#[97 + m % 26]⟩) = m := by
  unfold code2
  rw [toL, List.reverse_append, List.reverse_append]
  show (97 + m / 26 - 97) * 26 + (97 + m % 26 - 97) = m
  omega
theorem let_at (k : Fin 26) : LETS.cps.toList[k.val]? = some (97 + k.val) := by
  revert k
  decide +kernel
theorem let_is (k : Fin 26) : isLet (97 + k.val) = true := by
  revert k
  decide +kernel
theorem nameB_by {z : Str} {c : Nat} {r : List Nat} (e : z.cps.toList = c :: r) (l : (c :: r).length ≤ 8) (h1 : isLet c = true) (h2 : (c :: r).all (fun c => isLet c || isFig c) = true) : nameB z = true := by
  have hl := cps_len z
  rw [e] at hl
  unfold nameB
  rw [e, decide_eq_true (show 1 ≤ (z.length : Int) by rw [← hl, List.length_cons]; omega), decide_eq_true (show (z.length : Int) ≤ 8 by omega), h2]
  show (true && (true && (isLet c && true))) = true
  rw [h1] <;> rfl
theorem name_of {b : Str} (hb : b ∈ BEG) {x y : Nat} (hx : isLet x = true) (hy : isLet y = true) : nameB ((b ++ ⟨#[x]⟩) ++ ⟨#[y]⟩) = true := by
  have e := toL b x y
  have tail : ∀ l : List Nat, l.all (fun c => isLet c || isFig c) = true → (l ++ [x] ++ [y]).all (fun c => isLet c || isFig c) = true := fun l hl => by
    rw [List.all_append, List.all_append, hl, List.all_cons, List.all_cons, hx, hy] <;> rfl
  simp only [BEG, List.mem_cons, List.not_mem_nil, or_false] at hb
  rcases hb with rfl | rfl | rfl | rfl | rfl | rfl | rfl
  · exact nameB_by (c := x) (r := [y]) e (by simp) hx (tail [] rfl)
  · exact nameB_by (c := x) (r := [y]) e (by simp) hx (tail [] rfl)
  · exact nameB_by (c := 97) (r := [x, y]) e (by simp) (by decide +kernel) (tail [97] (by decide +kernel))
  · exact nameB_by (c := 122) (r := [57, x, y]) e (by simp) (by decide +kernel) (tail [122, 57] (by decide +kernel))
  · exact nameB_by (c := 116) (r := [105, 116, 108, 101, x, y]) e (by simp) (by decide +kernel) (tail [116, 105, 116, 108, 101] (by decide +kernel))
  · exact nameB_by (c := 109) (r := [48, 109, 48, 109, 48, x, y]) e (by simp) (by decide +kernel) (tail [109, 48, 109, 48, 109, 48] (by decide +kernel))
  · exact nameB_by (c := 98) (r := [x, y]) e (by simp) (by decide +kernel) (tail [98] (by decide +kernel))
theorem one_of {x : Nat} (hx : isLet x = true) : nameB ⟨#[x]⟩ = true := nameB_by (c := x) (r := []) rfl (by simp) hx (by rw [List.all_cons, hx] <;> rfl)
/-- the steps from name to name -/
def STP : List Nat := [1, 3, 5, 7, 9, 11, 15, 17]
theorem step_ok : ∀ a ∈ STP, ∀ b : Fin 13, ∀ d : Fin 40, d.val = 0 ∨ (d.val * (a + 26 * b.val)) % 676 ≠ 0 := by decide +kernel
def nth (c s j : Nat) : Nat := (c + j * s) % 676
theorem nth_inj {a b c : Nat} (ha : a ∈ STP) (hb : b < 13) {i j : Nat} (hi : i < j) (hj : j < 40) : nth c (a + 26 * b) i ≠ nth c (a + 26 * b) j := by
  intro e
  unfold nth at e
  have h := step_ok a ha ⟨b, hb⟩ ⟨j - i, by omega⟩
  have hd : j * (a + 26 * b) = i * (a + 26 * b) + (j - i) * (a + 26 * b) := by
    rw [← Nat.add_mul]
    congr 1
    omega
  generalize (j - i) * (a + 26 * b) = D at hd h
  generalize i * (a + 26 * b) = A at hd e
  rw [hd] at e
  rcases h with h | h
  · have h : j - i = 0 := h
    omega
  · have h : D % 676 ≠ 0 := h
    omega
theorem nth_nodup {a b c : Nat} (ha : a ∈ STP) (hb : b < 13) : ∀ {n : Nat}, n ≤ 40 → ((List.range n).map (nth c (a + 26 * b))).Nodup
  | 0, _ => List.nodup_nil
  | n + 1, h => by
    rw [List.range_succ, List.map_append]
    refine List.nodup_append.mpr ⟨nth_nodup ha hb (by omega), by simp, ?_⟩
    intro x hx y hy
    obtain ⟨i, hi, rfl⟩ := List.mem_map.mp hx
    rw [List.map_cons, List.map_nil, List.mem_singleton] at hy
    rw [hy]
    exact nth_inj ha hb (List.mem_range.mp hi) (by omega)
theorem nodup_set {α : Type} : ∀ {l : List α} {j : Nat} {x : α}, l.Nodup → x ∉ l → (l.set j x).Nodup
  | [], _, _, _, _ => List.nodup_nil
  | a :: r, 0, x, h, n => List.nodup_cons.mpr ⟨fun m => n (List.mem_cons_of_mem _ m), (List.nodup_cons.mp h).2⟩
  | a :: r, j + 1, x, h, n => by
    obtain ⟨h1, h2⟩ := List.nodup_cons.mp h
    refine List.nodup_cons.mpr ⟨fun m => ?_, nodup_set h2 fun m => n (List.mem_cons_of_mem _ m)⟩
    rcases List.mem_or_eq_of_mem_set m with m | e
    · exact h1 m
    · exact n (by rw [← e]; exact List.mem_cons_self)
theorem nodup_of_map {α β : Type} {f : α → β} : ∀ {l : List α}, (l.map f).Nodup → l.Nodup
  | [], _ => List.nodup_nil
  | a :: r, h => by
    obtain ⟨h1, h2⟩ := List.nodup_cons.mp h
    exact List.nodup_cons.mpr ⟨fun m => h1 (List.mem_map_of_mem m), nodup_of_map h2⟩
theorem ixN_at {n j : Nat} (hj : j < n) : ixN n (j : Int) = some j := by
  unfold ixN
  rw [if_pos (by omega), if_pos (by omega)]
  simp
/-! ### right masters -/
structure OkMa (m : MaM) : Prop where
  name : nameB m.name = true
  own : ∀ p ∈ m.own, OkPl p ∧ nameB p.name = true
  once : (m.own.map (·.name)).Nodup
  few : m.own.length ≤ 8
theorem OkMa.noL {m : MaM} (h : OkMa m) : Gd.noL m.d = true := MaM.noL fun p hp s hs => wOk_flat ((h.own p hp).1.right s hs).2
/-- masters of names all unlike, what is over each stands among them, no ring: each name has a height -/
structure OkMs (ms : List MaM) : Prop where
  all : ∀ m ∈ ms, OkMa m
  once : (ms.map (·.name)).Nodup
  over : ∃ f : Str → Nat, (∀ z, f z ≤ 12) ∧ ∀ m ∈ ms, ∀ z, m.over = some z → (∃ o ∈ ms, o.name = z) ∧ f z < f m.name
  few : ms.length ≤ 12
  some : 0 < ms.length
theorem OkMs.noL {ms : List MaM} (h : OkMs ms) : Gd.noL (.tuple (ms.map MaM.d)) = true := by
  simp only [Gd.noL]
  refine noL_all fun d hd => ?_
  obtain ⟨m, hm, rfl⟩ := List.mem_map.mp hd
  exact (h.all m hm).noL
/-! ### an item put in -/
def ins {α : Type} (l : List α) (i : Nat) (x : α) : List α := l.take i ++ x :: l.drop i
theorem ins_map {α β : Type} {f : α → β} {l : List α} {i : Nat} {x : α} : (ins l i x).map f = ins (l.map f) i (f x) := by
  unfold ins
  rw [List.map_append, List.map_cons, List.map_take, List.map_drop]
theorem ins_mem {α : Type} {l : List α} {i : Nat} {x y : α} : y ∈ ins l i x ↔ y = x ∨ y ∈ l := by
  unfold ins
  rw [List.mem_append, List.mem_cons]
  constructor
  · rintro (h | h | h)
    · exact .inr (List.mem_of_mem_take h)
    · exact .inl h
    · exact .inr (List.mem_of_mem_drop h)
  · rintro (h | h)
    · exact .inr (.inl h)
    · have e := List.take_append_drop i l
      rw [← e] at h
      rcases List.mem_append.mp h with h | h
      · exact .inl h
      · exact .inr (.inr h)
theorem ins_len {α : Type} {l : List α} {i : Nat} {x : α} : (ins l i x).length = l.length + 1 := by
  have e := congrArg List.length (List.take_append_drop i l)
  rw [List.length_append] at e
  unfold ins
  rw [List.length_append, List.length_cons]
  omega
theorem ins_perm {α : Type} {l : List α} {i : Nat} {x : α} : (ins l i x).Perm (x :: l) := by
  unfold ins
  refine (List.perm_middle).trans ?_
  rw [List.take_append_drop]
theorem ins_nodup {α : Type} {l : List α} {i : Nat} {x : α} (h : l.Nodup) (n : x ∉ l) : (ins l i x).Nodup := ins_perm.nodup_iff.mpr (List.nodup_cons.mpr ⟨n, h⟩)
theorem ins_dp {K : PySem.W.Frag} {H : Hp} {xs : List V} {ds : List PyData} {v : V} {d : PyData} (i : Nat) (h : DpAll K H xs ds) (hv : Dp K H v d) : DpAll K H (ins xs i v) (ins ds i d) := by
  unfold ins
  exact dpAll_app (dpAll_take i h) (.cons hv (dpAll_drop i h))
/-! ### where a name stands -/
def pos (z : Str) : List Str → Nat
  | [] => 0
  | y :: r => if y = z then 0 else pos z r + 1
theorem pos_get : ∀ {l : List Str} {j : Nat} {z : Str}, l.Nodup → l[j]? = some z → pos z l = j
  | [], _, _, _, e => by cases e
  | y :: r, 0, z, _, e => by
    cases e
    exact if_pos rfl
  | y :: r, j + 1, z, h, e => by
    obtain ⟨h1, h2⟩ := List.nodup_cons.mp h
    have e : r[j]? = some z := e
    have n : y ≠ z := fun q => h1 (by rw [q]; exact List.mem_of_getElem? e)
    show (if y = z then 0 else pos z r + 1) = j + 1
    rw [if_neg n, pos_get h2 e]
theorem pos_le (z : Str) : ∀ l : List Str, pos z l ≤ l.length
  | [] => Nat.le_refl _
  | y :: r => by
    show (if y = z then 0 else pos z r + 1) ≤ r.length + 1
    have := pos_le z r
    split <;> omega
theorem not_take {α : Type} : ∀ {l : List α} {j : Nat} {z : α}, l.Nodup → l[j]? = some z → z ∉ l.take j
  | [], _, _, _, e => by cases e
  | y :: r, 0, z, _, _ => fun m => nomatch m
  | y :: r, j + 1, z, h, e => fun m => by
    obtain ⟨h1, h2⟩ := List.nodup_cons.mp h
    have e : r[j]? = some z := e
    rcases List.mem_cons.mp (show z ∈ y :: r.take j from m) with q | q
    · exact h1 (by rw [← q]; exact List.mem_of_getElem? e)
    · exact not_take h2 e q
theorem ins_eq {α : Type} {l : List α} {i : Nat} {x : α} : l.take i ++ [x] ++ l.drop i = ins l i x := by
  unfold ins
  rw [List.append_assoc] <;> rfl
end Gn

set_option Elab.async false
set_option linter.all false
set_option maxRecDepth 100000
set_option maxHeartbeats 2000000
/-! Masters: chains, places; tables that grow. -/
namespace Gm
open PySem PySem.Spec PyProof.Rows L2 GxR Gx Gd Gn
/-- two ways that meet again -/
theorem seq_via {a b : TS} {D : Ends} {σ : L2.St} {H : Hp} (Mid : L2.St → Hp → Prop) (h1 : ∀ nx' : L2.St → Hp → Prop, (∀ σ' H', Mid σ' H' → nx' σ' H') → a { D with nx := nx' } σ H) (h2 : ∀ σ' H', Mid σ' H' → b D σ' H') : tSeq a b D σ H := h1 (b D) h2
def setD (s : Str × PyData) : PyData := .tuple [.str s.1, s.2]
def ovD : Option Str → V
  | none => .non
  | some z => .str z
def textD : Option (List Str) → PyData
  | none => .none
  | some l => .tuple (l.map .str)
theorem own_noL {own : List PlM} (h : ∀ q ∈ own, OkPl q ∧ nameB q.name = true) : noLAll (own.map PlM.d) = true := noL_all fun d hd => by
  obtain ⟨m, hm, rfl⟩ := List.mem_map.mp hd
  exact (h m hm).1.noL
theorem mas_noL {ms : List MaM} (h : ∀ q ∈ ms, OkMa q) : noLAll (ms.map MaM.d) = true := noL_all fun d hd => by
  obtain ⟨m, hm, rfl⟩ := List.mem_map.mp hd
  exact (h m hm).noL
/-- each over stands ahead of its master in zs -/
def Ahead (zs : List Str) (i : Nat) (ms : List MaM) : Prop := ∀ m ∈ ms, ∀ z, m.over = some z → ∃ j k, zs[j]? = some z ∧ zs[k]? = some m.name ∧ j < k ∧ k < i
theorem made_ok {zs : List Str} {ms : List MaM} (nd : zs.Nodup) (l : zs.length ≤ 12) (l0 : 0 < zs.length) (ok4 : ∀ m ∈ ms, OkMa m) (pm4 : (ms.map (·.name)).Perm zs) (ah4 : Ahead zs zs.length ms) : OkMs ms := by
  refine ⟨ok4, pm4.nodup_iff.mpr nd, ⟨fun z => pos z zs, fun z => Nat.le_trans (pos_le z zs) l, fun m mm z ez => ?_⟩, ?_, ?_⟩
  · obtain ⟨j, k, ej, ek, jk, _⟩ := ah4 m mm z ez
    refine ⟨?_, ?_⟩
    · have h1 : z ∈ ms.map (·.name) := pm4.mem_iff.mpr (List.mem_of_getElem? ej)
      obtain ⟨o, ho, e⟩ := List.mem_map.mp h1
      exact ⟨o, ho, e⟩
    · show pos z zs < pos m.name zs
      rw [pos_get nd ej, pos_get nd ek]
      exact jk
  · have h1 := pm4.length_eq
    rw [List.length_map] at h1
    omega
  · have h1 := pm4.length_eq
    rw [List.length_map] at h1
    omega
section
variable {K : PySem.W.Frag} {H : Hp}
theorem ma_at {v : V} {m : MaM} (h : Dp K H v m.d) : ∃ a g ps, v = .ref a ∧ SqT K H a [.str m.name, ovD m.over, .ref g] ∧ SqT K H g ps ∧ DpAll K H ps (m.own.map PlM.d) := by
  unfold MaM.d at h
  obtain ⟨a, xs, rfl, st, hx⟩ := dp_tup h
  cases hx with
  | cons h1 t1 =>
    cases t1 with
    | cons h2 t2 =>
      cases t2 with
      | cons h3 t3 =>
        cases t3
        obtain rfl := dp_str h1
        obtain ⟨g, ps, rfl, sg, hp⟩ := dp_tup h3
        refine ⟨a, g, ps, rfl, ?_, sg, hp⟩
        cases e : m.over with
        | none =>
          rw [e] at h2
          obtain rfl := dp_non h2
          exact st
        | some z =>
          rw [e] at h2
          obtain rfl := dp_str h2
          exact st
theorem pl_at {v : V} {p : PlM} (h : Dp K H v p.d) : ∃ a g ss u, v = .ref a ∧ SqT K H a [.str p.name, .ref g, u] ∧ SqT K H g ss ∧ DpAll K H ss (p.sets.map setD) ∧ Dp K H u (textD p.text) := by
  unfold PlM.d at h
  obtain ⟨a, xs, rfl, st, hx⟩ := dp_tup h
  cases hx with
  | cons h1 t1 =>
    cases t1 with
    | cons h2 t2 =>
      cases t2 with
      | cons h3 t3 =>
        cases t3
        obtain rfl := dp_str h1
        obtain ⟨g, ps, rfl, sg, hp⟩ := dp_tup h2
        refine ⟨a, g, ps, _, rfl, st, sg, hp, ?_⟩
        cases e : p.text with
        | none =>
          rw [e] at h3
          exact h3
        | some z =>
          rw [e] at h3
          exact h3
theorem set_at {v : V} {s : Str × PyData} (h : Dp K H v (setD s)) : ∃ a u, v = .ref a ∧ SqT K H a [.str s.1, u] ∧ Dp K H u s.2 := by
  unfold setD at h
  obtain ⟨a, xs, rfl, st, hx⟩ := dp_tup h
  cases hx with
  | cons h1 t1 =>
    cases t1 with
    | cons h2 t2 =>
      cases t2
      obtain rfl := dp_str h1
      exact ⟨a, _, rfl, st, h2⟩
end
/-- what stands at a place of a list of records -/
theorem at_rec {K : PySem.W.Frag} {H : Hp} {α : Type} {f : α → PyData} {xs : List V} {l : List α} {i : Nat} {x : V} (h : DpAll K H xs (l.map f)) (e : xs[i]? = some x) : ∃ r, l[i]? = some r ∧ Dp K H x (f r) := by
  obtain ⟨d, ed, hd⟩ := dpAll_of h e
  rw [List.getElem?_map] at ed
  cases q : l[i]? with
  | none =>
    rw [q] at ed
    cases ed
  | some r =>
    rw [q] at ed
    exact ⟨r, rfl, by cases ed; exact hd⟩
theorem str_at {zs : List Str} {i : Nat} {x : V} (e : (zs.map V.str)[i]? = some x) : ∃ z, zs[i]? = some z ∧ x = .str z := by
  rw [List.getElem?_map] at e
  cases q : zs[i]? with
  | none =>
    rw [q] at e
    cases e
  | some z =>
    rw [q] at e
    exact ⟨z, rfl, (Option.some.inj e).symm⟩
/-! ### the chain of a master -/
def fnd (ms : List MaM) (z : Str) : Option MaM := ms.find? fun m => decide (m.name = z)
theorem fnd_some {ms : List MaM} {z : Str} {m : MaM} (h : fnd ms z = some m) : m ∈ ms ∧ m.name = z := ⟨List.mem_of_find?_eq_some h, of_decide_eq_true (List.find?_some (p := fun m : MaM => decide (m.name = z)) h)⟩
theorem fnd_of {ms : List MaM} {z : Str} (h : ∃ m ∈ ms, m.name = z) : ∃ m, fnd ms z = some m := by
  cases e : fnd ms z with
  | some m => exact ⟨m, rfl⟩
  | none =>
    obtain ⟨m, hm, q⟩ := h
    exact absurd (decide_eq_true q) (List.find?_eq_none.mp e m hm)
theorem fnd_self : ∀ {ms : List MaM} {m : MaM}, (ms.map (·.name)).Nodup → m ∈ ms → fnd ms m.name = some m
  | [], _, _, h => nomatch h
  | a :: r, m, nd, h => by
    have nd' := List.nodup_cons.mp nd
    unfold fnd
    rw [List.find?_cons]
    rcases List.mem_cons.mp h with rfl | h
    · rw [decide_eq_true rfl]
    · have n : a.name ≠ m.name := fun e => nd'.1 (List.mem_map.mpr ⟨m, h, e.symm⟩)
      rw [decide_eq_false n]
      exact fnd_self nd'.2 h
def chnN (ms : List MaM) : Nat → Str → List MaM
  | 0, _ => []
  | n + 1, z => match fnd ms z with
    | none => []
    | some m => m :: (match m.over with
      | none => []
      | some y => chnN ms n y)
def chn (ms : List MaM) (z : Str) : List MaM := chnN ms 20 z
theorem chnN_len (ms : List MaM) : ∀ n z, (chnN ms n z).length ≤ n
  | 0, _ => Nat.le_refl _
  | n + 1, z => by
    unfold chnN
    cases fnd ms z with
    | none => exact Nat.zero_le _
    | some m =>
      cases e : m.over with
      | none => simp [e]
      | some y =>
        simp only [e, List.length_cons]
        exact Nat.succ_le_succ (chnN_len ms n y)
theorem chn_len (ms : List MaM) (z : Str) : (chn ms z).length ≤ 20 := chnN_len ms 20 z
theorem chnN_mem (ms : List MaM) : ∀ n z m, m ∈ chnN ms n z → m ∈ ms
  | 0, _, _, h => nomatch h
  | n + 1, z, m, h => by
    unfold chnN at h
    cases e : fnd ms z with
    | none =>
      rw [e] at h
      cases h
    | some o =>
      simp only [e] at h
      rcases List.mem_cons.mp h with rfl | h
      · exact (fnd_some e).1
      · cases eo : o.over with
        | none =>
          simp only [eo] at h
          cases h
        | some y =>
          simp only [eo] at h
          exact chnN_mem ms n y m h
theorem chn_mem {ms : List MaM} {z : Str} {m : MaM} (h : m ∈ chn ms z) : m ∈ ms := chnN_mem ms 20 z m h
theorem chnN_more {ms : List MaM} {f : Str → Nat} (hf : ∀ m ∈ ms, ∀ z, m.over = some z → (∃ o ∈ ms, o.name = z) ∧ f z < f m.name) : ∀ n k z, f z < n → n ≤ k → chnN ms n z = chnN ms k z
  | 0, _, _, h, _ => absurd h (Nat.not_lt_zero _)
  | n + 1, 0, _, _, h => absurd h (Nat.not_succ_le_zero _)
  | n + 1, k + 1, z, h, l => by
    unfold chnN
    cases e : fnd ms z with
    | none => rfl
    | some o =>
      cases eo : o.over with
      | none => simp only [eo]
      | some y =>
        obtain ⟨mo, no⟩ := fnd_some e
        have h2 := (hf o mo y eo).2
        rw [no] at h2
        simp only [eo]
        rw [chnN_more hf n k y (by omega) (by omega)]
theorem chn_step {ms : List MaM} (ok : OkMs ms) {z : Str} {m : MaM} (h : fnd ms z = some m) : chn ms z = m :: (match m.over with
    | none => []
    | some y => chn ms y) := by
  obtain ⟨f, fl, hf⟩ := ok.over
  show chnN ms (19 + 1) z = _
  unfold chnN
  rw [h]
  cases e : m.over with
  | none => simp only [e]
  | some y =>
    simp only [e]
    rw [show chn ms y = chnN ms 20 y from rfl, chnN_more hf 19 20 y (by have := fl y; omega) (by decide)]
/-- the height of a name, for loops along a chain -/
def chnL (ms : List MaM) (z : Str) : Nat := (chn ms z).length
/-! ### places -/
def addN (acc : List Str) (z : Str) : List Str := if z ∈ acc then acc else acc ++ [z]
def plN (l : List MaM) : List Str := l.flatMap fun m => m.own.map (·.name)
def there (ms : List MaM) (z : Str) : List Str := (plN (chn ms z).reverse).foldl addN []
theorem addN_len {acc : List Str} {z : Str} : (addN acc z).length ≤ acc.length + 1 := by
  unfold addN
  split
  · omega
  · rw [List.length_append]
    exact Nat.le_refl _
theorem fold_len : ∀ {l acc : List Str}, (l.foldl addN acc).length ≤ acc.length + l.length
  | [], acc => Nat.le_refl _
  | z :: r, acc => by
    have h := fold_len (l := r) (acc := addN acc z)
    have h2 := addN_len (acc := acc) (z := z)
    rw [List.foldl_cons, List.length_cons]
    omega
theorem plN_app (l : List MaM) (m : MaM) : plN (l ++ [m]) = plN l ++ m.own.map (·.name) := by
  unfold plN
  rw [List.flatMap_append]
  simp
theorem plN_len : ∀ {l : List MaM}, (∀ m ∈ l, m.own.length ≤ 8) → (plN l).length ≤ 8 * l.length
  | [], _ => Nat.zero_le _
  | m :: r, h => by
    have ih := plN_len (l := r) fun x hx => h x (List.mem_cons_of_mem _ hx)
    have h1 := h m List.mem_cons_self
    show (m.own.map (·.name) ++ plN r).length ≤ _
    rw [List.length_append, List.length_map, List.length_cons]
    omega
theorem inV_strs (z : Str) (l : List Str) : inV (.str z) (l.map V.str) = decide (z ∈ l) := by
  rw [Bool.eq_iff_iff, decide_eq_true_eq]
  show (((l.map V.str).any fun y => eqV y (.str z)) = true) ↔ _
  rw [List.any_eq_true]
  constructor
  · rintro ⟨x, hx, e⟩
    obtain ⟨y, hy, rfl⟩ := List.mem_map.mp hx
    rw [← (beq_iff_eq.mp (show (y == z) = true from e))]
    exact hy
  · intro h
    exact ⟨.str z, List.mem_map_of_mem h, beq_iff_eq.mpr rfl⟩
theorem flat_strs (l : List Str) : (l.map V.str).all flatV = true := by
  rw [List.all_map]
  exact List.all_eq_true.mpr fun _ _ => rfl
/-! ### tables that grow, all else kept -/
def Tk (P' : Addr) (H H' : Hp) : Prop := TabG H' P' ∧ ∀ b o, H b = some o → b ≠ P' → H' b = some o
section
variable {K : PySem.W.Frag} {P' : Addr} {H H' H2 : Hp}
theorem Tk.same (g : TabG H P') (s : Same H H') : Tk P' H H' := ⟨tabSame g s, fun b o e _ => s b o e⟩
theorem Tk.refl (g : TabG H P') : Tk P' H H := Tk.same g (Same.refl H)
theorem Tk.tabbed (h : Tabbed P' H H') : Tk P' H H' := ⟨h.1, tabbedKt h⟩
theorem Tk.trans (a : Tk P' H H') (b : Tk P' H' H2) : Tk P' H H2 := ⟨b.1, fun c o e n => b.2 c o (a.2 c o e n) n⟩
theorem tab_ne {o : HO} {b : Addr} (g : TabG H P') (e : H b = some o) (n : ∀ ps, o ≠ .tbl ps) : b ≠ P' := by
  obtain ⟨ps, q, _⟩ := g
  intro z
  rw [z, q] at e
  exact n ps (Option.some.inj e).symm
theorem Tk.lst {D : Addr} {xs : List V} (g : TabG H P') (k : Tk P' H H') (e : H D = some (.lst xs)) : H' D = some (.lst xs) := k.2 _ _ e (tab_ne g e fun _ q => nomatch q)
theorem KT.tk (g : TabG H P') (k : Tk P' H H') : KT K H H' := fun _ _ h => sqT_by h (fun _ e => k.2 _ _ e (tab_ne g e fun _ q => nomatch q)) fun _ _ e => k.2 _ _ e (tab_ne g e fun _ q => nomatch q)
theorem Tk.ne {b D : Addr} {o : HO} (g : TabG H P') (k : Tk P' H H') (e : H b = some o) (n : H' D = none) : b ≠ D := by
  intro z
  by_cases hb : b = P'
  · obtain ⟨ps, q, _⟩ := k.1
    rw [← z, hb, q] at n
    cases n
  · rw [← z, k.2 b o e hb] at n
    cases n
theorem Tk.free {D : Addr} (g : TabG H P') (k : Tk P' H H') (n : H' D = none) : H D = none := by
  cases e : H D with
  | none => rfl
  | some o => exact absurd rfl (k.ne g e n)
/-- a new list may change -/
theorem Tk.put {D : Addr} {o : HO} (g : TabG H P') (h : H D = none) (k : Tk P' H H') (hD : TabG (upd H' D o) P') : Tk P' H (upd H' D o) := ⟨hD, fun b u e n => by
  rw [upd_ne (ne_of_none e h)]
  exact k.2 b u e n⟩
theorem tab_put {D : Addr} {xs : List V} {o : HO} (g : TabG H P') (e : H D = some (.lst xs)) : TabG (upd H D o) P' := by
  have n := tab_ne g e fun _ q => nomatch q
  obtain ⟨ps, q, t⟩ := g
  exact ⟨ps, (upd_ne n.symm).trans q, t⟩
theorem Pen.tk {p L : Addr} {ns : List Int} {n : Nat} (h : Pen H p L ns n) (g : TabG H P') (k : Tk P' H H') : Pen H' p L ns n := h.kt g k.2
end
/-! ### lists of records read along -/
/-- promises of what is told of masters and a name -/
def spMsL (K : PySem.W.Frag) (R : List MaM → Str → Hp → Addr → Prop) : Sp := fun vs H Q _ => ∃ (v : V) (z : Str) (ms : List MaM), vs = [v, .str z] ∧ Dp K H v (.tuple (ms.map MaM.d)) ∧ OkMs ms ∧ (∃ m ∈ ms, m.name = z) ∧
  ∀ (D : Addr) (H' : Hp), Same H H' → H D = none → R ms z H' D → Q (.ref D) H'
def spMsT (K : PySem.W.Frag) (P' : Addr) (R : List MaM → Str → Hp → Addr → Prop) : Sp := fun vs H Q _ => ∃ (v : V) (z : Str) (ms : List MaM), vs = [v, .str z] ∧ Dp K H v (.tuple (ms.map MaM.d)) ∧ OkMs ms ∧ (∃ m ∈ ms, m.name = z) ∧ TabG H P' ∧
  ∀ (D : Addr) (H' : Hp), Tk P' H H' → H D = none → R ms z H' D → Q (.ref D) H'
def RChn (K : PySem.W.Frag) : List MaM → Str → Hp → Addr → Prop := fun ms z H' D => ∃ xs, H' D = some (.lst xs) ∧ DpAll K H' xs ((chn ms z).map MaM.d)
def RNms : List MaM → Str → Hp → Addr → Prop := fun ms z H' D => H' D = some (.lst (((chn ms z).map (·.name)).map V.str))
def RThere : List MaM → Str → Hp → Addr → Prop := fun ms z H' D => H' D = some (.lst ((there ms z).map V.str))
/-! ### data all the same -/
mutual
def slim : PyData → Bool
  | .tuple ds => decide (ds.length ≤ 1000) && slimAll ds
  | .list ds => decide (ds.length ≤ 1000) && slimAll ds
  | _ => true
def slimAll : List PyData → Bool
  | [] => true
  | d :: r => slim d && slimAll r
end
mutual
def dep : PyData → Nat
  | .tuple ds => depAll ds + 1
  | .list ds => depAll ds + 1
  | _ => 0
def depAll : List PyData → Nat
  | [] => 0
  | d :: r => max (dep d) (depAll r)
end
theorem slim_at : ∀ {ds : List PyData} {d : PyData}, slimAll ds = true → d ∈ ds → slim d = true
  | [], _, _, h => nomatch h
  | a :: r, d, s, h => by
    simp only [slimAll, Bool.and_eq_true] at s
    rcases List.mem_cons.mp h with rfl | h
    · exact s.1
    · exact slim_at s.2 h
theorem slim_all : ∀ {ds : List PyData}, (∀ d ∈ ds, slim d = true) → slimAll ds = true
  | [], _ => by simp only [slimAll]
  | d :: r, h => by simp only [slimAll, h d List.mem_cons_self, slim_all fun x hx => h x (List.mem_cons_of_mem _ hx), Bool.and_self]
theorem dep_at : ∀ {ds : List PyData} {d : PyData}, d ∈ ds → dep d ≤ depAll ds
  | [], _, h => nomatch h
  | a :: r, d, h => by
    simp only [depAll]
    rcases List.mem_cons.mp h with rfl | h
    · omega
    · have := dep_at h
      omega
theorem dep_all : ∀ {ds : List PyData} {n : Nat}, (∀ d ∈ ds, dep d ≤ n) → depAll ds ≤ n
  | [], _, _ => by simp only [depAll]; omega
  | d :: r, n, h => by
    have h1 := h d List.mem_cons_self
    have h2 := dep_all fun x hx => h x (List.mem_cons_of_mem _ hx)
    simp only [depAll]
    omega
def tyN : PyData → String
  | .none => "NoneType"
  | .bool _ => "bool"
  | .int _ => "int"
  | .str _ => "str"
  | .list _ => "list"
  | .tuple _ => "tuple"
  | _ => "dict"
theorem sqL_ty {K : PySem.W.Frag} {H : Hp} {a : Addr} {xs : List V} (e : SqL K H a xs) : TyX K H (.ref a) (.type "list") := by
  rcases e with (e | ⟨o, e⟩) | ⟨o, its, n, e, c, _⟩
  · exact .base (.lst e)
  · exact .base (.frz e)
  · exact .kList e c
theorem sqT_ty {K : PySem.W.Frag} {H : Hp} {a : Addr} {xs : List V} (e : SqT K H a xs) : TyX K H (.ref a) (.type "tuple") := by
  rcases e with (e | ⟨o, e⟩) | ⟨o, its, n, e, c, _⟩
  · exact .base (.tup e)
  · exact .fTuple e
  · exact .kTuple e c
theorem dp_ty {K : PySem.W.Frag} {H : Hp} {v : V} {d : PyData} (h : Dp K H v d) : TyX K H v (.type (tyN d)) := by
  cases h with
  | non => exact .base .non
  | bl b => exact .base (.bl b)
  | int i => exact .base (.int i)
  | str x => exact .base (.str x)
  | lst s _ => exact sqL_ty s
  | tup s _ => exact sqT_ty s
/-- zip of two tuples, as a walk -/
theorem walk_zipT {K : PySem.W.Frag} {a b : Addr} {xs ys : List V} {n : Nat} (hn : n = min xs.length ys.length) : Walk (RZ.ItzT K a b) n (fun H => SqT K H a xs ∧ SqT K H b ys) (YPair (fun i => xs[i]?) (fun i => ys[i]?)) := by
  subst hn
  refine ⟨fun i _ hi q => ?_, fun _ q => ⟨xs, ys, q.1, q.2, by omega⟩, fun i H v H' _ q y => ?_⟩
  · have h1 : i < xs.length := by omega
    have h2 : i < ys.length := by omega
    exact ⟨xs, ys, xs[i], ys[i], q.1, q.2, by simp [h1], by simp [h2]⟩
  · obtain ⟨T, x, z, h1, h2, h3, h4, h5⟩ := y
    exact ⟨T, x, z, h1, h2, h3, h4 xs q.1, h5 ys q.2⟩
/-! ### data stays -/
theorem dp_lst {K : PySem.W.Frag} {H : Hp} {v : V} {ds : List PyData} (h : Dp K H v (.list ds)) : ∃ a xs, v = .ref a ∧ SqL K H a xs ∧ DpAll K H xs ds := by
  cases h with
  | lst s h => exact ⟨_, _, rfl, s, h⟩
theorem dp_bl {K : PySem.W.Frag} {H : Hp} {v : V} {b : Bool} (h : Dp K H v (.bool b)) : v = .bl b := by
  cases h
  rfl
mutual
theorem dp_same {K : PySem.W.Frag} {H H' : Hp} (s : Same H H') : ∀ {v : V} {d : PyData}, Dp K H v d → Dp K H' v d
  | _, _, .non => .non
  | _, _, .bl b => .bl b
  | _, _, .int i => .int i
  | _, _, .str x => .str x
  | _, _, .lst q h => .lst (s.seq q) (dpAll_same s h)
  | _, _, .tup q h => .tup (sqT_same s q) (dpAll_same s h)
theorem dpAll_same {K : PySem.W.Frag} {H H' : Hp} (s : Same H H') : ∀ {vs : List V} {ds : List PyData}, DpAll K H vs ds → DpAll K H' vs ds
  | _, _, .nil => .nil
  | _, _, .cons h t => .cons (dp_same s h) (dpAll_same s t)
end
def isSeq : PyData → Bool
  | .tuple _ => true
  | .list _ => true
  | _ => false
theorem any2 {K : PySem.W.Frag} {v : V} {H : Hp} {d : PyData} (h : Dp K H v d) : PySem.W.kitAny K (.type (tyN d)) [.type "tuple", .type "list"] = some (isSeq d) := by
  cases h with
  | non => exact kitAny_cons (kit_ty (a := "NoneType") (r := false) (by decide +kernel)) (fun _ => kitAny_cons (kit_ty (a := "NoneType") (r := false) (by decide +kernel)) (fun _ => kitAny_nil) (fun z => nomatch z)) (fun z => nomatch z)
  | bl b => exact kitAny_cons (kit_ty (a := "bool") (r := false) (by decide +kernel)) (fun _ => kitAny_cons (kit_ty (a := "bool") (r := false) (by decide +kernel)) (fun _ => kitAny_nil) (fun z => nomatch z)) (fun z => nomatch z)
  | int i => exact kitAny_cons (kit_ty (a := "int") (r := false) (by decide +kernel)) (fun _ => kitAny_cons (kit_ty (a := "int") (r := false) (by decide +kernel)) (fun _ => kitAny_nil) (fun z => nomatch z)) (fun z => nomatch z)
  | str x => exact kitAny_cons (kit_ty (a := "str") (r := false) (by decide +kernel)) (fun _ => kitAny_cons (kit_ty (a := "str") (r := false) (by decide +kernel)) (fun _ => kitAny_nil) (fun z => nomatch z)) (fun z => nomatch z)
  | lst _ _ => exact kitAny_cons (kit_ty (a := "list") (r := false) (by decide +kernel)) (fun _ => kitAny_cons (kit_ty (a := "list") (r := true) (by decide +kernel)) (fun z => nomatch z) (fun _ => rfl)) (fun z => nomatch z)
  | tup _ _ => exact kitAny_cons (kit_ty (a := "tuple") (r := true) (by decide +kernel)) (fun z => nomatch z) (fun _ => rfl)
theorem one_ty {K : PySem.W.Frag} {v : V} {H : Hp} {d : PyData} (h : Dp K H v d) {c : String} {r : Bool} (e : L2.kitB (tyN d) c = some r) : ∃ t, TyX K H v t ∧ PySem.W.kitOne K t (.type c) = some r := ⟨_, dp_ty h, kit_ty e⟩
theorem pair2 : Paired ClsV [V.ty "tuple", V.ty "list"] [Value.type "tuple", Value.type "list"] := .cons (.ty _) (.cons (.ty _) .nil)
theorem ones_all {n : Nat} : (List.replicate n true).all id = true := List.all_eq_true.mpr fun b hb => by rw [(List.mem_replicate.mp hb).2] <;> rfl
theorem noLAll_app : ∀ {ds es : List PyData}, noLAll (ds ++ es) = (noLAll ds && noLAll es)
  | [], es => by simp only [List.nil_append, noLAll, Bool.true_and]
  | d :: r, es => by simp only [List.cons_append, noLAll, noLAll_app, Bool.and_assoc]
theorem dpAll_rev {K : PySem.W.Frag} {H : Hp} : ∀ {xs : List V} {ds : List PyData}, DpAll K H xs ds → DpAll K H xs.reverse ds.reverse
  | _, _, .nil => .nil
  | _, _, .cons h t => by
    rw [List.reverse_cons, List.reverse_cons]
    exact dpAll_app (dpAll_rev t) (.cons h .nil)
end Gm

set_option Elab.async false
set_option linter.all false
set_option maxRecDepth 100000
set_option maxHeartbeats 2000000
/-! Errors that are caught and kept behind the suite: isinstance of them. -/
namespace Gc
open PySem PySem.Spec PyProof.Rows L2 GxR Gx
/-- a caught error, kept as a value -/
def ExK (cls : Value) (d : Option Addr) (a : Addr) : HO := .ext fun h => ∃ (oe : Obj) (vs : Array Value), h.get? a = some oe ∧ Zc cls d oe ∧ oe.data = .fields vs
section
variable {X : Cx} {pins : List (Addr × Obj)} {σ : L2.St} {H : Hp} {s : Shared}
/-- an object that the def's entry didn't know may be tracked from now on -/
theorem track {a : Addr} {oe : Obj} {vs : Array Value} {cls : Value} {d : Option Addr} (I : Inv X pins σ H s) (ho : s.heap.get? a = some oe) (hz : Zc cls d oe) (hd : oe.data = .fields vs) (hn : H a = none) (h0 : X.s_0.heap.get? a = none)
    (nL : a ≠ X.env.locals) (nP : ∀ p ∈ X.pn ++ pins, p.1 ≠ a) : Inv X pins σ (upd H a (ExK cls d a)) s := by
  have other : ∀ {b : Addr} {u : HO}, H b = some u → upd H a (ExK cls d a) b = some u := fun {b u} e => by rw [upd_ne (ne_of_none e hn)]; exact e
  have away : ∀ {b : Addr}, b ≠ a → H b = none → upd H a (ExK cls d a) b = none := fun {b} n e => by rw [upd_ne n]; exact e
  refine ⟨I.ok, I.os, I.bare, ⟨I.base.keep, I.base.slot, fun b o e n hx => ?_, I.base.there, fun b xs e => other (I.base.tups b xs e), fun b o u e => other (I.base.frzs b o u e), fun b ps e => ?_⟩, I.loc, I.cell, away nL.symm I.free, fun x c e => ?_, fun p hp => ?_, fun b u e => ?_, I.len⟩
  · refine away (fun z => ?_) (I.base.free b o e n hx)
    rw [z, h0] at e
    cases e
  · obtain ⟨m, q⟩ := I.base.tbls b ps e
    exact ⟨m, other q⟩
  · refine away (fun z => ?_) (I.freeC x c e)
    obtain ⟨v, o, q, dc⟩ := I.cell x c e
    rw [z, ho] at q
    cases q
    rw [hd] at dc
    cases dc
  · obtain ⟨e, n, r⟩ := I.pin p hp
    exact ⟨e, away (nP p hp) n, r⟩
  · by_cases hb : b = a
    · rw [hb, upd_same] at e
      cases e
      rw [hb]
      exact ⟨⟨oe, vs, ho, hz, hd⟩, ⟨oe, ho⟩, fun h1 h2 ⟨o, v, q, r⟩ k => ⟨o, v, k o q, r⟩⟩
    · rw [upd_ne hb] at e
      exact (I.hok b u e).stay (fun c v _ q => q) (fun c q => other q) fun c xs q => other q
/-- what 'except x as n' wishes, the error kept -/
def wHold (K : PySem.W.Frag) (c : Value) (i : Nat) (ts : Addr → Value → Option Addr → TS) (Wout : WX) (D : Ends) : WX := fun cls d σ H =>
  ∃ b, PySem.W.exmOne K cls c = some b ∧ (b = true → ∀ a, H a = none → ts a cls d { nx := fun σ' H' => D.nx (σ'.set i none) (upd H' a (ExK cls d a)), rt := D.rt, bk := fun σ' H' => D.bk (σ'.set i none) (upd H' a (ExK cls d a)), ct := fun σ' H' => D.ct (σ'.set i none) (upd H' a (ExK cls d a)) } (σ.set i (some (.ref a))) H) ∧
    (b = false → Wout cls d σ H)
end
section
variable {X : Cx} {x n : Str} {c : Value} {i : Nat} {body suite : List Stmt} {b₀ : Stmt} {np pos pos' : Pos} {tb : WX → TS} {ts : Addr → Value → Option Addr → TS} {Wout : WX}
theorem ps_try_hold (hex : X.ex = []) (hs : X.stack = X.env :: X.outer) (hf : X.env.frame = some X.env.locals) (hN : X.N.Nodup) (hi : X.N[i]? = some n) (hln : X.env.kindOf n = some .local) (hc : Names X x c) (tk : Takes X Wout)
    (hb : ∀ (W : WX) (pn : List (Addr × Obj)) (xe : Value → Shared → Prop), Takes (X.tr pn xe) W → PassesOwn (model X.prog X.w) X.A X.env xe → PSs (X.tr pn xe) body (tb W))
    (hsu : ∀ (a : Addr) (oe : Obj) (cls : Value) (d : Option Addr) (pn : List (Addr × Obj)), Zc cls d oe → (∃ vs, oe.data = .fields vs) → PSs (X.suite a ((a, oe) :: pn)) (b₀ :: suite) (ts a cls d)) :
    PS X (.Try body [.ExceptHandler (some (.Name x np)) (some n) (b₀ :: suite) pos'] [] [] pos) (fun D σ H => tb (wHold X.K c i ts Wout D) D σ H) := by
  refine ⟨fun pins s σ H D I h => wpAny_Try_except (wpAny_mono ((hb (wHold X.K c i ts Wout D) (X.pn ++ pins) (fun e s₁ => wpAny (model X.prog X.w) X.A (noteFrame e X.env) (fun _ s₂ => wpAny (model X.prog X.w) X.A (setFlight e none) (fun _ s₃ =>
    wpAny (model X.prog X.w) X.A (handleBy e X.env [.ExceptHandler (some (.Name x np)) (some n) (b₀ :: suite) pos']) (SP X pins D) X.xe s₃) X.xe s₂) X.xe s₁) (fun u s' z => ?_) PassesOwn.looking).run [] s σ H D (I.toTry _) h) (fun f s1 q => ?_) fun _ _ z => z)⟩
  · have ok := I.ok
    have hfr : X.A.frames = some (X.env :: X.outer) := by rw [ok.frames, hs]
    obtain ⟨a, B, sI, pins', σ', H', cls, d, rfl, J', nb, up, sky, na, os, ag, b, hb1, hyes, hno⟩ := z
    have J : Inv X pins σ' H' sI := J'.ofTry ok
    rw [show (X.tr (X.pn ++ pins) _).stack = X.env :: X.outer from hs] at sky
    show wpAny (model X.prog X.w) X.A (noteFrame (.ref a) X.env) _ _ _
    refine Sky.land Zc.steady hfr hf sky fun h3 fl up3 => ?_
    have J3 : Inv X pins σ' H' { s' with heap := h3 } := J.landed nb fl.1 (up.trans up3) os ag
    obtain ⟨oe, vs, he, hz, hd⟩ := fl.there
    have nfr : a ∉ frs (X.env :: X.outer) := fun hm => by
      obtain ⟨_, o, e, hnf⟩ := fl.2.2.1.mem hm
      cases he.symm.trans e
      exact hnf _ hd
    have nL : a ≠ X.env.locals := fun z => nfr (List.mem_filterMap.mpr ⟨X.env, List.mem_cons_self, by rw [hf, z]⟩)
    have nF : a ∉ X.fs := fun hm => by
      obtain ⟨e, he, q⟩ := List.mem_filterMap.mp hm
      exact nfr (List.mem_filterMap.mpr ⟨e, List.mem_cons_of_mem _ he, q⟩)
    -- the error's object is new since the def's entry
    have nI : sI.heap.get? a = none := by
      cases q : sI.heap.get? a with
      | none => rfl
      | some o =>
        have z := nb a o q (by show a ∉ frs X.stack; rw [hs]; exact nfr)
        rw [fl.2.1] at z
        cases z
    have n0 : X.s_0.heap.get? a = none := by
      cases q : X.s_0.heap.get? a with
      | none => rfl
      | some o =>
        obtain ⟨o', z⟩ := J.base.there a o q (by rw [hex]; exact fun z => nomatch z)
        cases nI.symm.trans z
    have nP : ∀ p ∈ X.pn ++ pins, p.1 ≠ a := fun p hp z => by
      have e := (J.pin p hp).1
      rw [z, nI] at e
      cases e
    have S3 := J3.suite he hd na nL nF
    refine wpAny_handleBy_cons (codeAny_handlers_test ?_) (by intro q; cases q)
    have LT : PySem.W.Looks (model X.prog X.w) h3 (typeOf (.ref a)) cls := fun A Q E s k q => wpAny_typeOf_ref (k _ _ he) (by rw [hz.1]; exact q)
    have LM := PySem.W.exm_one (M := model X.prog X.w) J3.kIn LT hb1
    have test : ∀ {Q : Value → Shared → Prop} {E : Value → Shared → Prop}, Q c { s' with heap := h3 } → wpAny (model X.prog X.w) (X.A.mark (some (.ref a))) (eval (.Name x np) X.env) Q E { s' with heap := h3 } := fun {Q E} q => by
      obtain ⟨hg, hdbg, hm | ⟨hm, hv, hnn⟩⟩ := hc
      · exact ld_glob (X := X.suite a ((a, oe) :: (X.pn ++ pins))) S3 hg hm q hdbg
      · exact ld_blt (X := X.suite a ((a, oe) :: (X.pn ++ pins))) S3 hg hm hv q hnn hdbg
    refine test (LM.here ?_)
    cases b with
    | false =>
      -- it goes on
      refine wpAny_handleBy_nil ?_
      obtain ⟨_, _, _, o1, w1, T, _, _, e1, _, d1, t1, _⟩ := id fl
      unfold PySem.passOn
      refine wpAny_bind (wpAny_field e1 d1 t1 ?_)
      rw [if_neg (show ¬ ((Value.ref T == Value.none) = true) from by simp)]
      have fin : wpAny (model X.prog X.w) X.A (setFlight (.ref a) X.env.frame) (fun _ s4 => wpAny (model X.prog X.w) X.A (throw (.ref a) : Sem Flow) (SP X pins D) X.xe s4) X.xe { s' with heap := h3 } := by
        rw [hf]
        exact HandSPX.setFlight_upZ fl fun h4 hh up4 => wpAny_throw (tk _ _ ⟨a, B, sI, pins, σ', H', cls, d, rfl, J, nb, (up.trans up3).trans up4, .inr (.inr (by rw [hs]; exact hh)), na, os, ag, hno rfl⟩)
      first
        | exact wpAny_bind (wpAny_pure (wpAny_bind fin))
        | exact wpAny_bind fin
    | true =>
      -- it is held in the suite, and tracked behind it
      refine codeAny_handlers_suite_as (HandSPX.lands_againZ fl fun h4 fl4 up4 => ?_)
      have J4 : Inv X pins σ' H' { s' with heap := h4 } := J.landed nb fl4.1 ((up.trans up3).trans up4) os ag
      obtain ⟨o4, v4, e4, z4, d4⟩ := fl4.there
      refine store_ok (X := X.suite a ((a, o4) :: (X.pn ++ pins))) (v := .ref a) (J4.suite e4 d4 na nL nF) hN hi (.inl hln) rfl (fun s5 S5 => ?_) (.inr hln)
      refine wpAny_mono ((hsu a o4 cls d (X.pn ++ pins) z4 ⟨_, d4⟩).run [] s5 _ H' _ S5 (hyes rfl a na)) (fun f s6 hsp => ?_) (fun _ _ z => False.elim z)
      have done : ∀ {σ6 : L2.St} {H6 : Hp} {Q : Shared → Prop}, Inv (X.suite a ((a, o4) :: (X.pn ++ pins))) [] σ6 H6 s6 → (∀ s7, Inv X pins (σ6.set i none) H6 s7 → Inv X pins (σ6.set i none) (upd H6 a (ExK cls d a)) s7 → Q s7) →
          wpAny (model X.prog X.w) X.A (do bindName X.env n .none; unbindBehindTheSuite X.env n pos') (fun _ s7 => Q s7) X.xe s6 := fun {σ6 H6 Q} S6 hq =>
        gone_ok (X := X.suite a ((a, o4) :: (X.pn ++ pins))) S6 hN hi hln fun s7 S7 => by
          obtain ⟨e7, n7, _⟩ := S7.pin (a, o4) (List.mem_append_left _ List.mem_cons_self)
          have J7 : Inv X pins (σ6.set i none) H6 s7 := S7.unsuite ok
          exact hq s7 J7 (track J7 e7 z4 d4 n7 n0 nL nP)
      cases f with
      | next =>
        obtain ⟨σ6, H6, S6, q6⟩ := hsp
        exact done S6 fun s7 _ J7 => ⟨_, _, J7, q6⟩
      | brk =>
        obtain ⟨σ6, H6, S6, q6⟩ := hsp
        exact done S6 fun s7 _ J7 => ⟨_, _, J7, q6⟩
      | cont =>
        obtain ⟨σ6, H6, S6, q6⟩ := hsp
        exact done S6 fun s7 _ J7 => ⟨_, _, J7, q6⟩
      | ret u =>
        obtain ⟨v6, σ6, H6, S6, r6, q6⟩ := hsp
        exact done S6 fun s7 J7 _ => ⟨_, _, _, J7, r6, q6⟩
  · cases f with
    | next =>
      obtain ⟨σ', H', J', q⟩ := q
      exact wpAny_execs_nil ⟨σ', H', J'.ofTry I.ok, q⟩
    | brk =>
      obtain ⟨σ', H', J', q⟩ := q
      exact ⟨σ', H', J'.ofTry I.ok, q⟩
    | cont =>
      obtain ⟨σ', H', J', q⟩ := q
      exact ⟨σ', H', J'.ofTry I.ok, q⟩
    | ret u =>
      obtain ⟨v, σ', H', J', r, q⟩ := q
      exact ⟨v, σ', H', J'.ofTry I.ok, r, q⟩
end
/-- isinstance of a kept error -/
def rIsK (K : PySem.W.Frag) : List V → Hp → VK → Prop := fun xs H Q => ∃ (a D : Addr) (c : V) (cv : Value) (b : Bool), xs = [.ref a, c] ∧ H a = some (ExK (.ref D) none a) ∧ ExcC K D ∧ (∀ u, RelV c u → u = cv) ∧ PySem.W.kitOne K (.ref D) cv = some b ∧ Q (.bl b) H
theorem call_isK {X : Cx} : CallR X (.builtin "isinstance") (rIsK X.K) := by
  intro pins s σ H xs us Q I r h
  obtain ⟨a, D, c, cv, b, rfl, ha, C, hcv, e, q⟩ := h
  obtain ⟨u1, u2, rfl, r1, r2⟩ := vals2 r
  cases (show u1 = Value.ref a from r1)
  cases hcv _ r2
  obtain ⟨⟨oe, vs, ho, hz, hd⟩, _⟩ := I.hok a _ ha
  obtain ⟨oc, od, oda, osl⟩ := oe
  obtain ⟨h1, h2⟩ := hz
  dsimp only at h1 h2 hd
  subst h1 h2 hd
  exact PySem.W.kia_one (PySem.W.handS_kitx_exc C.hg C.hk C.hs C.hd C.ha C.hn C.ht C.hm) I.kIn ⟨ho, rfl, rfl, trivial⟩ e (fun z => nomatch z) fun tk => ⟨.bl b, H, I.kept (t' := tk) fun _ _ z => z, rfl, q⟩
/-! ### defs that raise, by their names -/
structure DnS (P : Program) (w : World) (K : PySem.W.Frag) (mg : Str → Option Value) (base : Heap) (k : Nat) (x : Str) (ps : List Str) (sp : Sp) : Prop where
  ex : ∃ (f : Addr) (fd : FuncData), mg x = some (.ref f) ∧ PySem.W.keepIn K (.ref f) = true ∧ Binds K fd ps [] ∧ FnOk P w K mg base (L2.CX P w) k f fd ps sp
section
variable {X : Cx} {k : Nat} {x : Str} {ps : List Str} {sp : Sp} {p pos : Pos} {e : Expr} {es : List Expr} {t : TA}
theorem pe_dnS {E : L2.St → XK} (D : DnS X.prog X.w X.K X.mg X.base k x ps sp) (hr : Room k X.A) (hg : Gl X x) (hx : ∀ σ, PassesAt (L2.CX X.prog X.w) X σ (E σ)) (ha : PA X (e :: es) t) (hdb : (x == ("__debug__" : Str)) = false := by decide)
    (he : starEach (e :: es) X.env = (false, eval e X.env) :: starEach es X.env := by rfl) (hpl : (backTo pos (starEach es X.env)).any (·.1) = false := by rfl) :
    PE X (.Call (.Name x p) (e :: es) [] pos) (tCallS sp E t) := by
  obtain ⟨f, fd, hm, hk, hb, F⟩ := D.ex
  exact pe_callS F hr hg hm hk hb hx ha hdb he hpl
end
section
variable {P : Program} {w : World} {K : PySem.W.Frag} {mg : Str → Option Value} {base : Heap} {x qual : Str} {params : Arguments} {body : List Stmt} {scope : Scope} {dvs : List V} {kws : List (Str × V)} {N ps : List Str} {k : Nat} {sp : Sp}
/-- a def that may raise -/
theorem okS {f : Addr} {fd : FuncData} (F : FunD K x qual params body scope dvs kws f fd) (S : FnScope N ps scope) (len : ∀ vs H Q E, sp vs H Q E → vs.length = ps.length)
    (hbody : ∀ (c : Value) (A : Around) (outer : List Env) (s : Shared) (H : Hp) (vs : List V) (Q : VK) (E : XK), Room k (A.deeper (envOfC qual scope s.heap.objs.size f c)) → sp vs H Q E →
      ∃ t, PSs (cxOf (L2.CX P w) P w K mg base N qual scope f c A outer s H E) body t ∧ t { nx := fun _ H' => Q .non H', rt := Q } (start N vs) H) : FnOk P w K mg base (L2.CX P w) (k + 1) f fd ps sp := by
  obtain ⟨oc, od, dV, kV, doc, pm, an, cdv, ct, osl, rfl, lk, hcd, _, _⟩ := F.ex
  exact fn_of lk hcd S len fun A outer s H vs Q E hr hsp => hbody _ A outer s H vs Q E hr hsp
end
/-! ### xs.count(y), flat items -/
theorem count_vals {y : V} : ∀ {ys : List V} {us : List Value}, Vals ys us → ys.all flatV = true → us.countP (eqU y) = ys.countP fun z => eqV z y
  | [], _, .nil, _ => rfl
  | z :: r, _, .cons h t, f => by
    rw [List.all_cons, Bool.and_eq_true] at f
    rw [List.countP_cons, List.countP_cons, count_vals t f.2, eqU_of h f.1]
def rCntV (K : PySem.W.Frag) : V → List V → Hp → VK → Prop := fun x xs H Q => ∃ (a : Addr) (ys : List V) (y : V), x = .ref a ∧ xs = [y] ∧ SqL K H a ys ∧ flatV y = true ∧ ys.all flatV = true ∧ Q (.int (ys.countP fun z => eqV z y : Nat)) H
theorem mt_lcountV {X : Cx} : MtR X "list.count" (rCntV X.K) := by
  intro pins s σ H x xs v us Q I rx rxs h
  obtain ⟨a, ys, y, rfl, rfl, hs, fy, fys, q⟩ := h
  cases (show v = Value.ref a from rx)
  obtain ⟨u, rfl, ru⟩ := rxs.one
  obtain ⟨its, rv, ⟨⟨cls, dd, data, sl⟩, n, ho, hc, hdn, hd⟩, hlen⟩ := I.list hs
  simp only at hc hd
  subst hc hd
  refine call_meets PySem.F.slot_list_count ⟨_, ho, rfl⟩ PySem.F.entry_list_count (PySem.F.args_list_count_2 _ _)
    (SeqAt.list_countAt a its.toArray n dd sl u (eqU y)) ⟨ho, fun u' hu' => mem_eqAt ru fy rv fys u' (by simpa using hu'), ?_⟩
  have ec : its.toArray.toList.countP (eqU y) = ys.countP fun z => eqV z y := by
    rw [List.toList_toArray]
    exact count_vals rv fys
  refine ⟨.int (ys.countP fun z => eqV z y : Nat), H, I.tok _, ⟨s.toks, ?_⟩, q⟩
  show Value.int ((its.toArray.toList.countP (eqU y) : Nat) : Int) s.toks = _
  rw [ec]
/-! ### facts of an error's class -/
/-- what the head tells of the class at C -/
def excB (K : PySem.W.Frag) (C : Addr) : Bool := PySem.W.excIn K C He.veBase "ValueError.__new__" && (PySem.W.keepIn K (.ref C) && (decide (PySem.W.subIn K (.ref C) (.type "BaseException") = some true) && (decide (PySem.W.typeIn K (.ref C) = some (.type "type")) &&
  (decide (PySem.W.findIn K (.ref C) "__getattribute__" = some (some (.builtin "BaseException.__getattribute__"))) && (decide (PySem.W.findIn K (.ref C) "__getattr__" = some none) && (PySem.W.hasDictIn K C && (decide (PySem.W.findIn K (.ref C) "__class__" = some (some (.builtin "object.__class__"))) &&
  (decide (PySem.W.specialIn K (.builtin "object.__class__") "__get__" = some (some (.builtin "getset_descriptor.__get__"))) && (decide (PySem.W.takesIn K (.builtin "object.__class__") = some true) && decide (PySem.W.mroIn K C (.type "object") = some true))))))))))
structure ExF (K : PySem.W.Frag) (C : Addr) : Prop where
  x : PySem.W.excIn K C He.veBase "ValueError.__new__" = true
  k : PySem.W.keepIn K (.ref C) = true
  b : PySem.W.subIn K (.ref C) (.type "BaseException") = some true
  t : PySem.W.typeIn K (.ref C) = some (.type "type")
  c : ExcC K C
theorem excB_ok {K : PySem.W.Frag} {C : Addr} (h : excB K C = true) : ExF K C := by
  unfold excB at h
  simp only [Bool.and_eq_true, decide_eq_true_eq] at h
  obtain ⟨h1, h2, h3, h4, h5, h6, h7, h8, h9, h10, h11⟩ := h
  exact ⟨h1, h2, h3, h4, ⟨h5, h6, h3, h7, h8, h9, h10, h11⟩⟩
/-- of an error of the class at C: which of the classes named it is -/
def kitB (K : PySem.W.Frag) (C : Addr) (one : Str) (xs : List Str) : Bool := xs.all fun x => decide (PySem.W.kitOne K (.ref C) (.ref (He.ga K x)) = some (decide (x = one)))
theorem kitB_ok {K : PySem.W.Frag} {C : Addr} {one : Str} {xs : List Str} (h : kitB K C one xs = true) {x : Str} (hx : x ∈ xs) : PySem.W.kitOne K (.ref C) (.ref (He.ga K x)) = some (decide (x = one)) := of_decide_eq_true (List.all_eq_true.mp h x hx)
/-! ### new objects, their heaps not spelt out -/
theorem lst_any {H : Hp} {xs : List V} {Q : VK} (hz : xs.length ≤ sizeLine) (q : ∀ p H', H' p = some (.lst xs) → Same H H' → H p = none → Q (.ref p) H') : xs.length ≤ sizeLine ∧ ∀ p, H p = none → Q (.ref p) (upd H p (.lst xs)) :=
  ⟨hz, fun p hp => q p _ upd_same (same_new hp) hp⟩
theorem tup_any {H : Hp} {xs : List V} {Q : VK} (hz : xs.length ≤ sizeLine) (q : ∀ p H', H' p = some (.tup xs) → Same H H' → H p = none → Q (.ref p) H') : xs.length ≤ sizeLine ∧ ∀ p, H p = none → Q (.ref p) (upd H p (.tup xs)) :=
  ⟨hz, fun p hp => q p _ upd_same (same_new hp) hp⟩
theorem catL_any {H : Hp} {l b : Addr} {xs ys : List V} {Q : VK} (hl : H l = some (.lst xs)) (hb : H b = some (.lst ys)) (hz : xs.length + ys.length ≤ sizeLine) (q : ∀ p H', H' p = some (.lst (xs ++ ys)) → Same H H' → H p = none → Q (.ref p) H') : rCat (.ref l) (.ref b) H Q :=
  ⟨l, b, xs, ys, rfl, rfl, hl, hb, hz, fun p hp => q p _ upd_same (same_new hp) hp⟩
end Gc

set_option Elab.async false
set_option linter.all false
set_option maxRecDepth 100000
set_option maxHeartbeats 2000000
/-! Kinds of things, errors by their classes, what masters say of a place. -/
namespace Gk
open PySem PySem.Spec PyProof.Rows L2 GxR Gx Gd Gn Gm Gc
/-! ### traits -/
def TR : List V := TRS.map V.str
def traitV : V → Bool
  | .str z => inV (.str z) TR
  | _ => false
theorem traitV_no {v : V} (h : isStr v = false) : traitV v = false := by
  cases v <;> first | rfl | cases h
theorem trait_mem {v : V} (h : traitV v = true) : ∃ z, v = .str z ∧ z ∈ TRS := by
  cases v with
  | str z =>
    refine ⟨z, rfl, ?_⟩
    rw [show traitV (.str z) = inV (.str z) (TRS.map V.str) from rfl, inV_strs] at h
    exact of_decide_eq_true h
  | _ => cases h
theorem trait_true {z : Str} (h : z ∈ TRS) : traitV (.str z) = true := by
  rw [show traitV (.str z) = inV (.str z) (TRS.map V.str) from rfl, inV_strs]
  exact decide_eq_true h
/-! ### whole numbers -/
def wholeV : V → Bool
  | .int _ => true
  | _ => false
def isInt : V → Bool
  | .int _ => true
  | .bl _ => true
  | _ => false
theorem Th.int_ {K : PySem.W.Frag} {H : Hp} {v : V} (h : Th H v) : ∃ t, TyX K H v t ∧ PySem.W.kitOne K t (.type "int") = some (isInt v) := by
  cases h with
  | non => exact ⟨_, .base .non, kit_ty (r := false) (by decide +kernel)⟩
  | bl b => exact ⟨_, .base (.bl b), kit_ty (r := true) (by decide +kernel)⟩
  | int i => exact ⟨_, .base (.int i), kit_ty (r := true) (by decide +kernel)⟩
  | str z => exact ⟨_, .base (.str z), kit_ty (r := false) (by decide +kernel)⟩
  | lst e => exact ⟨_, .base (.lst e), kit_ty (r := false) (by decide +kernel)⟩
  | tup e => exact ⟨_, .base (.tup e), kit_ty (r := false) (by decide +kernel)⟩
  | dK e => exact ⟨_, .base (.dK e), kit_ty (r := false) (by decide +kernel)⟩
theorem Th.bool_ {K : PySem.W.Frag} {H : Hp} {v : V} (h : Th H v) : ∃ t, TyX K H v t ∧ PySem.W.kitOne K t (.type "bool") = some (isBl v) := by
  cases h with
  | non => exact ⟨_, .base .non, kit_ty (r := false) (by decide +kernel)⟩
  | bl b => exact ⟨_, .base (.bl b), kit_ty (r := true) (by decide +kernel)⟩
  | int i => exact ⟨_, .base (.int i), kit_ty (r := false) (by decide +kernel)⟩
  | str z => exact ⟨_, .base (.str z), kit_ty (r := false) (by decide +kernel)⟩
  | lst e => exact ⟨_, .base (.lst e), kit_ty (r := false) (by decide +kernel)⟩
  | tup e => exact ⟨_, .base (.tup e), kit_ty (r := false) (by decide +kernel)⟩
  | dK e => exact ⟨_, .base (.dK e), kit_ty (r := false) (by decide +kernel)⟩
theorem Ok1.tk {P' : Addr} {H H' : Hp} {v : V} (h : Ok1 H v) (g : TabG H P') (k : Tk P' H H') : Ok1 H' v := ⟨h.1.kt g k.2, h.2⟩
theorem Ok1.same {H H' : Hp} {v : V} (h : Ok1 H v) (s : Same H H') : Ok1 H' v := ⟨h.1.same s, h.2⟩
theorem name_small {z : Str} (h : nameB z = true) : z.length ≤ 8 := by
  unfold nameB at h
  simp only [Bool.and_eq_true, decide_eq_true_eq] at h
  omega
/-! ### errors' classes -/
structure Er (K : PySem.W.Frag) (mg : Str → Option Value) (nm : Str) : Prop extends ExF K (He.ga K nm) where
  g : mg nm = some (.ref (He.ga K nm))
/-! ### what the chain says of a place -/
def fndV (ms : List MaM) : V → Option MaM
  | .str z => fnd ms z
  | _ => none
theorem fndV_some {ms : List MaM} {v : V} {m : MaM} (h : fndV ms v = some m) : v = .str m.name ∧ fnd ms m.name = some m := by
  cases v with
  | str z =>
    have e := (fnd_some (show fnd ms z = some m from h)).2
    rw [e]
    exact ⟨rfl, h⟩
  | _ => cases h
def said (l : List MaM) (y : Str) : List (Str × PlM) := l.flatMap fun m => (m.own.filter fun p => decide (p.name = y)).map fun p => (m.name, p)
def saidV (l : List MaM) : V → List (Str × PlM)
  | .str y => said l y
  | _ => []
def sd (s : Str × PlM) : PyData := .tuple [.str s.1, .tuple (s.2.sets.map setD), textD s.2.text]
theorem said_app (a b : List MaM) (y : Str) : said (a ++ b) y = said a y ++ said b y := List.flatMap_append
theorem said_one (m : MaM) (y : Str) : said [m] y = (m.own.filter fun p => decide (p.name = y)).map fun p => (m.name, p) := by
  unfold said
  rw [List.flatMap_cons, List.flatMap_nil, List.append_nil]
theorem said_len {y : Str} : ∀ {l : List MaM}, (∀ m ∈ l, m.own.length ≤ 8) → (said l y).length ≤ 8 * l.length
  | [], _ => Nat.zero_le _
  | m :: r, h => by
    have ih := said_len (y := y) (l := r) fun x hx => h x (List.mem_cons_of_mem _ hx)
    have h1 := h m List.mem_cons_self
    have h2 := List.length_filter_le (fun p : PlM => decide (p.name = y)) m.own
    show (((m.own.filter fun p => decide (p.name = y)).map fun p => (m.name, p)) ++ said r y).length ≤ _
    rw [List.length_append, List.length_map, List.length_cons]
    omega
theorem said_pl {l : List MaM} {y : Str} {s : Str × PlM} (h : s ∈ said l y) : ∃ m ∈ l, s.1 = m.name ∧ s.2 ∈ m.own ∧ s.2.name = y := by
  obtain ⟨m, hm, h⟩ := List.mem_flatMap.mp h
  obtain ⟨p, hp, rfl⟩ := List.mem_map.mp h
  obtain ⟨h1, h2⟩ := List.mem_filter.mp hp
  exact ⟨m, hm, rfl, h1, of_decide_eq_true h2⟩
def wfind : List (Str × PlM) → Str → Option (PyData × Str)
  | [], _ => none
  | s :: r, t => match s.2.sets.find? fun x => decide (x.1 = t) with
    | some x => some (x.2, s.1)
    | none => wfind r t
def tfind : List (Str × PlM) → Option (List Str × Str)
  | [] => none
  | s :: r => match s.2.text with
    | some x => some (x, s.1)
    | none => tfind r
def ownW (t : Str) : PyData := if t = "left" then .int 0 else if t = "top" then .int 0 else if t = "wide" then .int 40 else if t = "high" then .int 10 else if t = "size" then .int 1 else .str "plain"
def resW (l : List (Str × PlM)) (t : Str) : PyData := match wfind l t with
  | some x => .tuple [x.1, .tuple [.str "master", .str x.2]]
  | none => .tuple [ownW t, .tuple [.str "own"]]
def resT (l : List (Str × PlM)) : PyData := match tfind l with
  | some x => .tuple [.tuple (x.1.map .str), .str x.2]
  | none => .tuple [.none, .none]
theorem wfind_app {t : Str} : ∀ {a b : List (Str × PlM)}, wfind a t = none → wfind (a ++ b) t = wfind b t
  | [], _, _ => rfl
  | s :: r, b, h => by
    unfold wfind at h
    rw [List.cons_append]
    show wfind (s :: (r ++ b)) t = _
    rw [wfind]
    cases e : s.2.sets.find? fun x => decide (x.1 = t) with
    | some x =>
      rw [e] at h
      cases h
    | none =>
      rw [e] at h
      exact wfind_app h
theorem wfind_one {s : Str × PlM} {r : List (Str × PlM)} {t : Str} {x : Str × PyData} (h : (s.2.sets.find? fun x => decide (x.1 = t)) = some x) : wfind (s :: r) t = some (x.2, s.1) := by
  rw [wfind, h]
theorem wfind_no {s : Str × PlM} {r : List (Str × PlM)} {t : Str} (h : (s.2.sets.find? fun x => decide (x.1 = t)) = none) : wfind (s :: r) t = wfind r t := by
  rw [wfind, h]
theorem tfind_app : ∀ {a b : List (Str × PlM)}, tfind a = none → tfind (a ++ b) = tfind b
  | [], _, _ => rfl
  | s :: r, b, h => by
    unfold tfind at h
    rw [List.cons_append]
    show tfind (s :: (r ++ b)) = _
    rw [tfind]
    cases e : s.2.text with
    | some x =>
      rw [e] at h
      cases h
    | none =>
      rw [e] at h
      exact tfind_app h
theorem tfind_one {s : Str × PlM} {r : List (Str × PlM)} {x : List Str} (h : s.2.text = some x) : tfind (s :: r) = some (x, s.1) := by
  rw [tfind, h]
theorem tfind_no {s : Str × PlM} {r : List (Str × PlM)} (h : s.2.text = none) : tfind (s :: r) = tfind r := by
  rw [tfind, h]
theorem find_at {α : Type} {p : α → Bool} {l : List α} {j : Nat} {x : α} (e : l[j]? = some x) (h : p x = true) (n : (l.take j).find? p = none) : l.find? p = some x := by
  have hl := (List.getElem?_eq_some_iff.mp e).1
  have ed : l = l.take j ++ x :: l.drop (j + 1) := by
    have h1 := List.take_append_drop j l
    rw [List.drop_eq_getElem_cons hl, (List.getElem?_eq_some_iff.mp e).2] at h1
    exact h1.symm
  rw [ed, List.find?_append, n, List.find?_cons, h] <;> rfl
theorem find_more {α : Type} {p : α → Bool} {l : List α} {j : Nat} {x : α} (e : l[j]? = some x) (h : p x = false) (n : (l.take j).find? p = none) : (l.take (j + 1)).find? p = none := by
  rw [take_more e, List.find?_append, n, List.find?_cons, h] <;> rfl
theorem split_at {α : Type} {l : List α} {j : Nat} {x : α} (e : l[j]? = some x) : l = l.take j ++ x :: l.drop (j + 1) := by
  have hl := (List.getElem?_eq_some_iff.mp e).1
  have h1 := List.take_append_drop j l
  rw [List.drop_eq_getElem_cons hl, (List.getElem?_eq_some_iff.mp e).2] at h1
  exact h1.symm
/-- each place told is one of some master of the chain -/
theorem fold_mem {y : Str} : ∀ {l acc : List Str}, y ∈ l.foldl addN acc → y ∈ acc ∨ y ∈ l
  | [], acc, h => .inl h
  | z :: r, acc, h => by
    rcases fold_mem (l := r) (acc := addN acc z) h with h | h
    · unfold addN at h
      split at h
      · exact .inl h
      · rcases List.mem_append.mp h with h | h
        · exact .inl h
        · exact .inr (by rw [List.mem_singleton.mp h]; exact List.mem_cons_self)
    · exact .inr (List.mem_cons_of_mem _ h)
theorem there_said {ms : List MaM} {z y : Str} (h : y ∈ there ms z) : said (chn ms z) y ≠ [] ∧ ∃ m ∈ chn ms z, ∃ p ∈ m.own, p.name = y := by
  rcases fold_mem h with h | h
  · cases h
  · obtain ⟨m, hm, h⟩ := List.mem_flatMap.mp h
    obtain ⟨p, hp, rfl⟩ := List.mem_map.mp h
    have hm := List.mem_reverse.mp hm
    refine ⟨fun e => ?_, m, hm, p, hp, rfl⟩
    have : (m.name, p) ∈ said (chn ms z) p.name := List.mem_flatMap.mpr ⟨m, hm, List.mem_map.mpr ⟨p, List.mem_filter.mpr ⟨hp, decide_eq_true rfl⟩, rfl⟩⟩
    rw [e] at this
    cases this
theorem sd_at {K : PySem.W.Frag} {H : Hp} {v : V} {s : Str × PlM} (h : Dp K H v (sd s)) : ∃ a g ss u, v = .ref a ∧ SqT K H a [.str s.1, .ref g, u] ∧ SqT K H g ss ∧ DpAll K H ss (s.2.sets.map setD) ∧ Dp K H u (textD s.2.text) := by
  unfold sd at h
  obtain ⟨a, xs, rfl, st, hx⟩ := dp_tup h
  cases hx with
  | cons h1 t1 =>
    cases t1 with
    | cons h2 t2 =>
      cases t2 with
      | cons h3 t3 =>
        cases t3
        obtain rfl := dp_str h1
        obtain ⟨g, ps, rfl, sg, hp⟩ := dp_tup h2
        exact ⟨a, g, ps, _, rfl, st, sg, hp, h3⟩
theorem noL_setD {p : PlM} (h : OkPl p) : noLAll (p.sets.map setD) = true := noL_all fun d hd => by
  obtain ⟨s, hs, rfl⟩ := List.mem_map.mp hd
  unfold setD
  simp only [Gd.noL, noLAll, flat_noL (wOk_flat (h.right s hs).2), Bool.and_self]
theorem noL_text (o : Option (List Str)) : Gd.noL (textD o) = true := by
  cases o with
  | none => simp only [textD, Gd.noL]
  | some l =>
    simp only [textD, Gd.noL]
    exact noL_all fun d hd => by
      obtain ⟨z, _, rfl⟩ := List.mem_map.mp hd
      simp only [Gd.noL]
theorem noL_sd {s : Str × PlM} (h : OkPl s.2) : Gd.noL (sd s) = true := by
  unfold sd
  simp only [Gd.noL, noLAll, noL_setD h, noL_text, Bool.and_self]
theorem wfind_mem {t : Str} {x : PyData × Str} : ∀ {l : List (Str × PlM)}, wfind l t = some x → ∃ s ∈ l, ∃ e ∈ s.2.sets, x.1 = e.2
  | [], h => nomatch h
  | s :: r, h => by
    rw [wfind] at h
    cases e : s.2.sets.find? fun x => decide (x.1 = t) with
    | some y =>
      rw [e] at h
      cases h
      exact ⟨s, List.mem_cons_self, y, List.mem_of_find?_eq_some e, rfl⟩
    | none =>
      rw [e] at h
      obtain ⟨s', hs, q⟩ := wfind_mem h
      exact ⟨s', List.mem_cons_of_mem _ hs, q⟩
theorem tfind_mem {x : List Str × Str} : ∀ {l : List (Str × PlM)}, tfind l = some x → ∃ s ∈ l, s.2.text = some x.1
  | [], h => nomatch h
  | s :: r, h => by
    rw [tfind] at h
    cases e : s.2.text with
    | some y =>
      rw [e] at h
      cases h
      exact ⟨s, List.mem_cons_self, e⟩
    | none =>
      rw [e] at h
      obtain ⟨s', hs, q⟩ := tfind_mem h
      exact ⟨s', List.mem_cons_of_mem _ hs, q⟩
theorem flat_plain {d : PyData} (h : flatW d = true) : dep d = 0 ∧ slim d = true ∧ Gd.noL d = true := by
  cases d with
  | int i => exact ⟨by simp only [dep], by simp only [slim], by simp only [Gd.noL]⟩
  | str z => exact ⟨by simp only [dep], by simp only [slim], by simp only [Gd.noL]⟩
  | _ => cases h
theorem own_flat (t : Str) : flatW (ownW t) = true := by
  unfold ownW
  repeat (split; · rfl)
  rfl
theorem resW_ok {l : List (Str × PlM)} {t : Str} (h : ∀ s ∈ l, OkPl s.2) : dep (resW l t) = 2 ∧ slim (resW l t) = true ∧ Gd.noL (resW l t) = true := by
  unfold resW
  cases e : wfind l t with
  | none =>
    obtain ⟨h1, h2, h3⟩ := flat_plain (own_flat t)
    simp [dep, depAll, slim, slimAll, Gd.noL, noLAll, h1, h2, h3]
  | some x =>
    obtain ⟨s, hs, e', he, ex⟩ := wfind_mem e
    obtain ⟨h1, h2, h3⟩ := flat_plain (wOk_flat ((h s hs).right e' he).2)
    simp [dep, depAll, slim, slimAll, Gd.noL, noLAll, ex, h1, h2, h3]
theorem strs_plain {l : List Str} (h : l.length ≤ 1000) : depAll (l.map PyData.str) = 0 ∧ slimAll (l.map PyData.str) = true ∧ noLAll (l.map PyData.str) = true := by
  refine ⟨Nat.le_zero.mp (dep_all fun d hd => ?_), slim_all fun d hd => ?_, noL_all fun d hd => ?_⟩ <;> (obtain ⟨z, _, rfl⟩ := List.mem_map.mp hd)
  · simp only [dep, Nat.le_refl]
  · simp only [slim]
  · simp only [Gd.noL]
theorem resT_ok {l : List (Str × PlM)} (h : ∀ s ∈ l, OkPl s.2) : dep (Gk.resT l) ≤ 2 ∧ slim (Gk.resT l) = true ∧ Gd.noL (Gk.resT l) = true := by
  unfold Gk.resT
  cases e : tfind l with
  | none =>
    simp only [dep, depAll, slim, slimAll, Gd.noL, noLAll]
    decide
  | some x =>
    obtain ⟨s, hs, ex⟩ := tfind_mem e
    have hl := ((h s hs).text _ ex).1
    obtain ⟨h1, h2, h3⟩ := strs_plain (l := x.1) (by omega)
    simp [dep, depAll, slim, slimAll, Gd.noL, noLAll, h1, h2, h3, List.length_map, show x.1.length ≤ 1000 by omega]
theorem said_ok {l : List MaM} {y : Str} (h : ∀ m ∈ l, OkMa m) : ∀ s ∈ said l y, OkPl s.2 := fun s hs => by
  obtain ⟨m, hm, _, h2, _⟩ := said_pl hs
  exact ((h m hm).own _ h2).1
/-! ### slots wiped -/
theorem wipe_set_out {σ : L2.St} {i : Nat} {x : Option V} : ∀ {vs : List Nat}, i ∉ vs → wipe (σ.set i x) vs = (wipe σ vs).set i x
  | [], _ => rfl
  | v :: r, h => by
    have h1 : v ≠ i := fun e => h (by rw [e]; exact List.mem_cons_self)
    have ih := wipe_set_out (σ := σ) (x := x) (vs := r) fun m => h (List.mem_cons_of_mem _ m)
    show (wipe (σ.set i x) r).set v none = ((wipe σ r).set v none).set i x
    rw [ih, List.set_comm _ _ h1]
theorem wipe_set {σ : L2.St} {i : Nat} {x : Option V} : ∀ {vs : List Nat}, i ∈ vs → wipe (σ.set i x) vs = wipe σ vs
  | [], h => nomatch h
  | v :: r, h => by
    show (wipe (σ.set i x) r).set v none = (wipe σ r).set v none
    by_cases m : i ∈ r
    · rw [wipe_set m]
    · have e : i = v := (List.mem_cons.mp h).resolve_right m
      rw [wipe_set_out m, e, List.set_set]
theorem wipe_wipe (σ : L2.St) : ∀ vs : List Nat, wipe (wipe σ vs) vs = wipe σ vs
  | [] => rfl
  | v :: r => by
    show wipe ((wipe σ r).set v none) (v :: r) = _
    rw [wipe_set List.mem_cons_self]
    show (wipe (wipe σ r) r).set v none = (wipe σ r).set v none
    rw [wipe_wipe σ r]
theorem wset1 {σ : L2.St} {vs : List Nat} {i : Nat} {a : Option V} (hi : i ∈ vs) : wipe ((wipe σ vs).set i a) vs = wipe σ vs := by rw [wipe_set hi, wipe_wipe]
theorem wset2 {σ : L2.St} {vs : List Nat} {i j : Nat} {a b : Option V} (hi : i ∈ vs) (hj : j ∈ vs) : wipe (((wipe σ vs).set i a).set j b) vs = wipe σ vs := by rw [wipe_set hj, wset1 hi]
theorem wset3 {σ : L2.St} {vs : List Nat} {i j k : Nat} {a b c : Option V} (hi : i ∈ vs) (hj : j ∈ vs) (hk : k ∈ vs) : wipe ((((wipe σ vs).set i a).set j b).set k c) vs = wipe σ vs := by rw [wipe_set hk, wset2 hi hj]
/-! ### comprehensions of two fors -/
section
variable {J J1 : It} {n : Nat} {G : Hp → Prop} {Y : Nat → Hp → V → Hp → Prop}
theorem lc2_it (w : Walk J n G Y) {g g1 : TG} {tt tt1 : TT} {wi1 : TI} {te : TE} {vs vs1 : List Nat} {σ : L2.St} {H1 : Hp} {D : Addr} {Qd : Hp → Prop} (Pv : Nat → Hp → Prop) (h0 : Pv 0 (upd H1 D (.lst []))) (hG : ∀ i H, i ≤ n → Pv i H → G H)
    (hs : ∀ i x H H', i < n → Pv i H → Y i H x H' → g x (wipe σ vs) H' fun σ2 H2 => wipe σ2 vs = wipe σ vs ∧ tt σ2 H2 fun b H3 => if b = true then wi1 σ2 H3 fun J1 H4 => ∃ W1 : Nat → Nat → Hp → Prop, (∃ m, W1 0 m H4) ∧ ∀ j k H, W1 j k H →
      (J1.stop j H ∧ Pv (i + 1) H) ∨ (J1.go j H ∧ ∃ Nx1 : Hp → Prop, (∀ H', Nx1 H' → ∃ k', k' < k ∧ W1 (j + 1) k' H') ∧ ∀ x H', J1.yld j H x H' → g1 x (wipe σ2 vs1) H' fun σ3 H5 => wipe σ3 vs1 = wipe σ2 vs1 ∧ tt1 σ3 H5 fun b H6 =>
        if b = true then te σ3 H6 fun y H7 => ∃ acc, H7 D = some (.lst acc) ∧ acc.length < sizeLine ∧ Nx1 (upd H7 D (.lst (acc ++ [y]))) else Nx1 H6)
    else Pv (i + 1) H3) (hd : ∀ H, Pv n H → Qd H) :
    ∃ W : Nat → Nat → Hp → Prop, (∃ m, W 0 m (upd H1 D (.lst []))) ∧ ∀ i m H, W i m H →
  (J.stop i H ∧ Qd H) ∨ (J.go i H ∧ ∃ Nx : Hp → Prop, (∀ H', Nx H' → ∃ m', m' < m ∧ W (i + 1) m' H') ∧ ∀ x H', J.yld i H x H' → g x (wipe σ vs) H' fun σ2 H2 => wipe σ2 vs = wipe σ vs ∧ tt σ2 H2 fun b H3 =>
    if b = true then wi1 σ2 H3 fun J1 H4 => ∃ W1 : Nat → Nat → Hp → Prop, (∃ m, W1 0 m H4) ∧ ∀ j k H, W1 j k H →
      (J1.stop j H ∧ Nx H) ∨ (J1.go j H ∧ ∃ Nx1 : Hp → Prop, (∀ H', Nx1 H' → ∃ k', k' < k ∧ W1 (j + 1) k' H') ∧ ∀ x H', J1.yld j H x H' → g1 x (wipe σ2 vs1) H' fun σ3 H5 => wipe σ3 vs1 = wipe σ2 vs1 ∧ tt1 σ3 H5 fun b H6 =>
        if b = true then te σ3 H6 fun y H7 => ∃ acc, H7 D = some (.lst acc) ∧ acc.length < sizeLine ∧ Nx1 (upd H7 D (.lst (acc ++ [y]))) else Nx1 H6)
    else Nx H3) := by
  refine ⟨fun i m H => m = n - i ∧ i ≤ n ∧ Pv i H, ⟨n, by simp, Nat.zero_le _, h0⟩, ?_⟩
  rintro i m H ⟨rfl, hi, p⟩
  have q := hG i H hi p
  by_cases hlt : i < n
  · refine .inr ⟨w.goes i H hlt q, Pv (i + 1), fun H' p' => ⟨n - (i + 1), by omega, rfl, hlt, p'⟩, fun x H' y => hs i x H H' hlt p (w.yields i H x H' hlt q y)⟩
  · have e : i = n := by omega
    subst e
    exact .inl ⟨w.stops H q, hd H p⟩
/-- the inner one -/
theorem lcin_it (w : Walk J1 n G Y) {g1 : TG} {tt1 : TT} {te : TE} {vs1 : List Nat} {σ2 : L2.St} {H4 : Hp} {D : Addr} {Qd : Hp → Prop} (Pv : Nat → Hp → Prop) (h0 : Pv 0 H4) (hG : ∀ i H, i ≤ n → Pv i H → G H)
    (hs : ∀ j x H H', j < n → Pv j H → Y j H x H' → g1 x (wipe σ2 vs1) H' fun σ3 H5 => wipe σ3 vs1 = wipe σ2 vs1 ∧ tt1 σ3 H5 fun b H6 =>
        if b = true then te σ3 H6 fun y H7 => ∃ acc, H7 D = some (.lst acc) ∧ acc.length < sizeLine ∧ Pv (j + 1) (upd H7 D (.lst (acc ++ [y]))) else Pv (j + 1) H6) (hd : ∀ H, Pv n H → Qd H) :
    ∃ W1 : Nat → Nat → Hp → Prop, (∃ m, W1 0 m H4) ∧ ∀ j k H, W1 j k H →
      (J1.stop j H ∧ Qd H) ∨ (J1.go j H ∧ ∃ Nx1 : Hp → Prop, (∀ H', Nx1 H' → ∃ k', k' < k ∧ W1 (j + 1) k' H') ∧ ∀ x H', J1.yld j H x H' → g1 x (wipe σ2 vs1) H' fun σ3 H5 => wipe σ3 vs1 = wipe σ2 vs1 ∧ tt1 σ3 H5 fun b H6 =>
        if b = true then te σ3 H6 fun y H7 => ∃ acc, H7 D = some (.lst acc) ∧ acc.length < sizeLine ∧ Nx1 (upd H7 D (.lst (acc ++ [y]))) else Nx1 H6) := by
  refine ⟨fun i m H => m = n - i ∧ i ≤ n ∧ Pv i H, ⟨n, by simp, Nat.zero_le _, h0⟩, ?_⟩
  rintro i m H ⟨rfl, hi, p⟩
  have q := hG i H hi p
  by_cases hlt : i < n
  · refine .inr ⟨w.goes i H hlt q, Pv (i + 1), fun H' p' => ⟨n - (i + 1), by omega, rfl, hlt, p'⟩, fun x H' y => hs i x H H' hlt p (w.yields i H x H' hlt q y)⟩
  · have e : i = n := by omega
    subst e
    exact .inl ⟨w.stops H q, hd H p⟩
theorem lc2_itE (w : Walk J n G Y) {g g1 : TG} {tt tt1 : TT} {wi1 : TI} {te : TE} {vs vs1 : List Nat} {σ : L2.St} {H1 : Hp} {D : Addr} {Qd : Hp → Prop} (Pv : Nat → Hp → Prop) (h0 : Pv 0 (upd H1 D (.lst []))) (hG : ∀ i H, i ≤ n → Pv i H → G H)
    (σ0 : L2.St) (eσ : wipe σ vs = σ0) (hs : ∀ i x H H', i < n → Pv i H → Y i H x H' → g x σ0 H' fun σ2 H2 => wipe σ2 vs = σ0 ∧ tt σ2 H2 fun b H3 => if b = true then wi1 σ2 H3 fun J1 H4 => ∃ W1 : Nat → Nat → Hp → Prop, (∃ m, W1 0 m H4) ∧ ∀ j k H, W1 j k H →
      (J1.stop j H ∧ Pv (i + 1) H) ∨ (J1.go j H ∧ ∃ Nx1 : Hp → Prop, (∀ H', Nx1 H' → ∃ k', k' < k ∧ W1 (j + 1) k' H') ∧ ∀ x H', J1.yld j H x H' → g1 x (wipe σ2 vs1) H' fun σ3 H5 => wipe σ3 vs1 = wipe σ2 vs1 ∧ tt1 σ3 H5 fun b H6 =>
        if b = true then te σ3 H6 fun y H7 => ∃ acc, H7 D = some (.lst acc) ∧ acc.length < sizeLine ∧ Nx1 (upd H7 D (.lst (acc ++ [y]))) else Nx1 H6)
    else Pv (i + 1) H3) (hd : ∀ H, Pv n H → Qd H) :
    ∃ W : Nat → Nat → Hp → Prop, (∃ m, W 0 m (upd H1 D (.lst []))) ∧ ∀ i m H, W i m H →
  (J.stop i H ∧ Qd H) ∨ (J.go i H ∧ ∃ Nx : Hp → Prop, (∀ H', Nx H' → ∃ m', m' < m ∧ W (i + 1) m' H') ∧ ∀ x H', J.yld i H x H' → g x (wipe σ vs) H' fun σ2 H2 => wipe σ2 vs = wipe σ vs ∧ tt σ2 H2 fun b H3 =>
    if b = true then wi1 σ2 H3 fun J1 H4 => ∃ W1 : Nat → Nat → Hp → Prop, (∃ m, W1 0 m H4) ∧ ∀ j k H, W1 j k H →
      (J1.stop j H ∧ Nx H) ∨ (J1.go j H ∧ ∃ Nx1 : Hp → Prop, (∀ H', Nx1 H' → ∃ k', k' < k ∧ W1 (j + 1) k' H') ∧ ∀ x H', J1.yld j H x H' → g1 x (wipe σ2 vs1) H' fun σ3 H5 => wipe σ3 vs1 = wipe σ2 vs1 ∧ tt1 σ3 H5 fun b H6 =>
        if b = true then te σ3 H6 fun y H7 => ∃ acc, H7 D = some (.lst acc) ∧ acc.length < sizeLine ∧ Nx1 (upd H7 D (.lst (acc ++ [y]))) else Nx1 H6)
    else Nx H3) := by
  subst eσ
  exact lc2_it w Pv h0 hG hs hd
theorem lcin_itE (w : Walk J1 n G Y) {g1 : TG} {tt1 : TT} {te : TE} {vs1 : List Nat} {σ2 : L2.St} {H4 : Hp} {D : Addr} {Qd : Hp → Prop} (Pv : Nat → Hp → Prop) (h0 : Pv 0 H4) (hG : ∀ i H, i ≤ n → Pv i H → G H)
    (σ0 : L2.St) (eσ : wipe σ2 vs1 = σ0) (hs : ∀ j x H H', j < n → Pv j H → Y j H x H' → g1 x σ0 H' fun σ3 H5 => wipe σ3 vs1 = σ0 ∧ tt1 σ3 H5 fun b H6 =>
        if b = true then te σ3 H6 fun y H7 => ∃ acc, H7 D = some (.lst acc) ∧ acc.length < sizeLine ∧ Pv (j + 1) (upd H7 D (.lst (acc ++ [y]))) else Pv (j + 1) H6) (hd : ∀ H, Pv n H → Qd H) :
    ∃ W1 : Nat → Nat → Hp → Prop, (∃ m, W1 0 m H4) ∧ ∀ j k H, W1 j k H →
      (J1.stop j H ∧ Qd H) ∨ (J1.go j H ∧ ∃ Nx1 : Hp → Prop, (∀ H', Nx1 H' → ∃ k', k' < k ∧ W1 (j + 1) k' H') ∧ ∀ x H', J1.yld j H x H' → g1 x (wipe σ2 vs1) H' fun σ3 H5 => wipe σ3 vs1 = wipe σ2 vs1 ∧ tt1 σ3 H5 fun b H6 =>
        if b = true then te σ3 H6 fun y H7 => ∃ acc, H7 D = some (.lst acc) ∧ acc.length < sizeLine ∧ Nx1 (upd H7 D (.lst (acc ++ [y]))) else Nx1 H6) := by
  subst eσ
  exact lcin_it w Pv h0 hG hs hd
end
/-! ### the deck's own worths, a dict of the module -/
structure OW (K : PySem.W.Frag) (w : World) : Prop where
  at_ : ∀ z ∈ TRS, ∃ v, KDct K w (He.ga K "OWN_WORTHS") z v ∧ ∀ H, Dp K H v (ownW z)
def relW : PyData → Value → Bool
  | .int i, .int j _ => decide (i = j)
  | .str a, .str b _ => decide (a = b)
  | _, _ => false
def ownB (K : PySem.W.Frag) : Bool := TRS.all fun z => match PySem.W.nsIn K (He.ga K "OWN_WORTHS") z with
  | some (some u) => relW (ownW z) u
  | _ => false
theorem ownB_ok {K : PySem.W.Frag} {w : World} (h : ownB K = true) (d : ∃ es n, L2.KDict K w (He.ga K "OWN_WORTHS") es n) : OW K w := by
  refine ⟨fun z mz => ?_⟩
  have h1 := List.all_eq_true.mp h z mz
  obtain ⟨es, n, hd⟩ := d
  split at h1
  · rename_i u e
    cases eo : ownW z with
    | int i =>
      rw [eo] at h1
      cases u with
      | int j t =>
        obtain rfl : i = j := of_decide_eq_true h1
        exact ⟨.int i, ⟨es, n, _, hd.at_, hd.lit, e, ⟨t, rfl⟩⟩, fun H => .int i⟩
      | _ => cases h1
    | str s =>
      rw [eo] at h1
      cases u with
      | str j t =>
        obtain rfl : s = j := of_decide_eq_true h1
        exact ⟨.str s, ⟨es, n, _, hd.at_, hd.lit, e, ⟨t, rfl⟩⟩, fun H => .str s⟩
      | _ => cases h1
    | _ =>
      rw [eo] at h1
      cases h1
  · cases h1
/-! ### promises -/
section
variable (K : PySem.W.Frag) (P' : Addr)
def spTrait : Sp := fun vs H Q _ => ∃ v, vs = [v] ∧ Th H v ∧ Q (.bl (traitV v)) H
def spOneOf : Sp := fun vs H Q _ => ∃ (v : V) (a : Addr) (xs : List V), vs = [v, .ref a] ∧ Th H v ∧ SqT K H a xs ∧ xs.all flatV = true ∧ Q (.bl (isStr v && inV v xs)) H
def spMOfR : Sp := fun vs H Q E => ∃ (v n : V) (ms : List MaM), vs = [v, n] ∧ Dp K H v (.tuple (ms.map MaM.d)) ∧ OkMs ms ∧ Ok1 H n ∧ TabG H P' ∧
  (∀ (m : MaM) (u : V) (H' : Hp), fndV ms n = some m → Tk P' H H' → Dp K H' u m.d → Q u H') ∧ (fndV ms n = none → ∀ H', Tk P' H H' → E (.ref (He.ga K "NoMaster")) none H')
def spMsR (R : List MaM → Str → Hp → Addr → Prop) : Sp := fun vs H Q E => ∃ (v n : V) (ms : List MaM), vs = [v, n] ∧ Dp K H v (.tuple (ms.map MaM.d)) ∧ OkMs ms ∧ Ok1 H n ∧ TabG H P' ∧
  (∀ m, fndV ms n = some m → ∀ (D : Addr) (H' : Hp), Tk P' H H' → H D = none → R ms m.name H' D → Q (.ref D) H') ∧ (fndV ms n = none → ∀ H', Tk P' H H' → E (.ref (He.ga K "NoMaster")) none H')
def spSaid : Sp := fun vs H Q E => ∃ (v n y : V) (ms : List MaM), vs = [v, n, y] ∧ Dp K H v (.tuple (ms.map MaM.d)) ∧ OkMs ms ∧ Ok1 H n ∧ Ok1 H y ∧ TabG H P' ∧
  (fndV ms n = none → ∀ H', Tk P' H H' → E (.ref (He.ga K "NoMaster")) none H') ∧ (∀ m, fndV ms n = some m → saidV (chn ms m.name) y = [] → ∀ H', Tk P' H H' → E (.ref (He.ga K "NoPlace")) none H') ∧
  (∀ m, fndV ms n = some m → saidV (chn ms m.name) y ≠ [] → ∀ (D : Addr) (H' : Hp) (xs : List V), Tk P' H H' → H D = none → H' D = some (.lst xs) → DpAll K H' xs ((saidV (chn ms m.name) y).map sd) → Q (.ref D) H')
def spWSaid : Sp := fun vs H Q _ => ∃ (D : Addr) (t : Str) (xs : List V) (l : List (Str × PlM)), vs = [.ref D, .str t] ∧ t ∈ TRS ∧ H D = some (.lst xs) ∧ DpAll K H xs (l.map sd) ∧ ∀ (u : V) (H' : Hp), Same H H' → Dp K H' u (resW l t) → Q u H'
def spWBy : Sp := fun vs H Q E => ∃ (v n y t : V) (ms : List MaM), vs = [v, n, y, t] ∧ Dp K H v (.tuple (ms.map MaM.d)) ∧ OkMs ms ∧ Ok1 H n ∧ Ok1 H y ∧ Ok1 H t ∧ TabG H P' ∧
  (fndV ms n = none → ∀ H', Tk P' H H' → E (.ref (He.ga K "NoMaster")) none H') ∧ (∀ m, fndV ms n = some m → saidV (chn ms m.name) y = [] → ∀ H', Tk P' H H' → E (.ref (He.ga K "NoPlace")) none H') ∧
  (∀ m, fndV ms n = some m → saidV (chn ms m.name) y ≠ [] → traitV t = false → ∀ H', Tk P' H H' → E (.ref (He.ga K "NoTrait")) none H') ∧
  (∀ m z, fndV ms n = some m → saidV (chn ms m.name) y ≠ [] → t = .str z → z ∈ TRS → ∀ (u : V) (H' : Hp), Tk P' H H' → Dp K H' u (resW (saidV (chn ms m.name) y) z) → Q u H')
def spTBy : Sp := fun vs H Q E => ∃ (v n y : V) (ms : List MaM), vs = [v, n, y] ∧ Dp K H v (.tuple (ms.map MaM.d)) ∧ OkMs ms ∧ Ok1 H n ∧ Ok1 H y ∧ TabG H P' ∧
  (fndV ms n = none → ∀ H', Tk P' H H' → E (.ref (He.ga K "NoMaster")) none H') ∧ (∀ m, fndV ms n = some m → saidV (chn ms m.name) y = [] → ∀ H', Tk P' H H' → E (.ref (He.ga K "NoPlace")) none H') ∧
  (∀ m, fndV ms n = some m → saidV (chn ms m.name) y ≠ [] → ∀ (u : V) (H' : Hp), Tk P' H H' → Dp K H' u (resT (saidV (chn ms m.name) y)) → Q u H')
end
end Gk

set_option Elab.async false
set_option linter.all false
set_option maxRecDepth 100000
set_option maxHeartbeats 2000000
/-! The word of an error, whatever its class. -/
namespace Gw
open PySem PySem.Spec PyProof.Rows L2 GxR Gx Gd Gn Gm Gc Gk
def CLS : List Str := ["NoDeck", "NoDeed", "NoLink", "NoMaster", "NoName", "NoNumber", "NoPlace", "NoPress", "NoRoom", "NoRow", "NoSetting", "NoShow", "NoSlide", "NoSteps", "NoText", "NoTime", "NoTrait", "NoWord", "NoWorth", "Ring", "Taken", "TooMany", "Used"]
def WRA : List Str := ["deck", "deed", "link", "master", "name", "number", "place", "press", "room", "row", "setting", "show"]
def WRB : List Str := ["slide", "steps", "text", "time", "trait", "word", "worth", "ring", "taken", "many", "used"]
def rk (one : Str) : List Str → Nat
  | [] => 0
  | x :: r => if x = one then 0 else rk one r + 1
def wordOf (one : Str) : Str := ((WRA ++ WRB)[rk one CLS]?).getD ""
def fl (one x : Str) : V := .bl (decide (x = one))
theorem fl_facts : ∀ one ∈ CLS, (CLS.map (fl one)).countP (fun z => eqV z (.bl true)) = 1 ∧ (CLS.map (fl one)).all flatV = true ∧ (CLS.map (fl one))[rk one CLS]? = some (.bl true) ∧ ((CLS.map (fl one)).take (rk one CLS)).all (fun z => eqV z (.bl true) == false) = true ∧ (WRA ++ WRB)[rk one CLS]? = some (wordOf one) := by decide +kernel
theorem fl_not {one : Str} (h : one ∈ CLS) (m : Nat) (z : V) (hm : m < rk one CLS) (hz : (CLS.map (fl one))[m]? = some z) : eqV z (.bl true) = false := by
  have h4 := (fl_facts one h).2.2.2.1
  have e : ((CLS.map (fl one)).take (rk one CLS))[m]? = some z := by
    rw [List.getElem?_take, if_pos hm]
    exact hz
  exact beq_iff_eq.mp (List.all_eq_true.mp h4 z (List.mem_of_getElem? e))
structure TxtC (K : PySem.W.Frag) (mg : Str → Option Value) : Prop where
  cls : ∀ x, CLS.contains x = true → mg x = some (.ref (He.ga K x))
/-- what the head tells of one error's class -/
def ewB (K : PySem.W.Frag) (one : Str) : Bool := excB K (He.ga K one) && (decide (PySem.W.exmOne K (.ref (He.ga K one)) (.ref (He.ga K "DeckError")) = some true) && (kitB K (He.ga K one) one CLS && decide (PySem.W.kitOne K (.ref (He.ga K one)) (.type "ValueError") = some true)))
structure ErW (K : PySem.W.Frag) (mg : Str → Option Value) (one : Str) : Prop extends Er K mg one where
  e : PySem.W.exmOne K (.ref (He.ga K one)) (.ref (He.ga K "DeckError")) = some true
  kit : kitB K (He.ga K one) one CLS = true
  kv : PySem.W.kitOne K (.ref (He.ga K one)) (.type "ValueError") = some true
  m : one ∈ CLS
theorem ewB_ok {K : PySem.W.Frag} {mg : Str → Option Value} {one : Str} (h : ewB K one = true) (g : mg one = some (.ref (He.ga K one))) (m : one ∈ CLS) : ErW K mg one := by
  unfold ewB at h
  simp only [Bool.and_eq_true, decide_eq_true_eq] at h
  obtain ⟨h1, h2, h3, h4⟩ := h
  exact ⟨⟨excB_ok h1, g⟩, h2, h3, h4, m⟩
theorem kitW {K : PySem.W.Frag} {mg : Str → Option Value} {one : Str} (N : ErW K mg one) {x : Str} (hx : CLS.contains x = true) : PySem.W.kitOne K (.ref (He.ga K one)) (.ref (He.ga K x)) = some (decide (x = one)) := kitB_ok N.kit (List.contains_iff_mem.mp hx)
def spWord (K : PySem.W.Frag) (mg : Str → Option Value) : Sp := fun vs H Q _ => ∃ (a : Addr) (one : Str), vs = [.ref a] ∧ ErW K mg one ∧ H a = some (ExK (.ref (He.ga K one)) none a) ∧ ∀ H', Same H H' → Q (.str (wordOf one)) H'
/-- an error's object stays what it is -/
theorem exK_ne {H : Hp} {a b : Addr} {c : Value} {o : HO} (h : H a = some (ExK c none a)) (hb : H b = some o) (n : ∀ phi, o ≠ .ext phi) : a ≠ b := by
  intro e
  rw [e, hb] at h
  exact n _ (Option.some.inj h)
end Gw

set_option Elab.async false
set_option linter.all false
set_option maxRecDepth 100000
set_option maxHeartbeats 2000000
/-! Things of other kinds, names that are none of some. -/
namespace Gt
open PySem PySem.Spec PyProof.Rows L2 GxR Gx Gd Gn Gm Gc Gk
theorem th_kp {H H' : Hp} {p L : Addr} {ns : List Int} {n m : Nat} {x : V} (hP : Pen H p L ns n) (hP' : Pen H' p L ns m) (h : Ok1 H x) (k : Kp p H H') : Ok1 H' x := by
  refine ⟨?_, h.2⟩
  obtain ⟨a, r, hp, _⟩ := hP.at_
  have h1 := h.1
  cases h1 with
  | non => exact .non
  | bl b => exact .bl b
  | int i => exact .int i
  | str z => exact .str z
  | @lst a xs e =>
    by_cases ea : a = p
    · obtain ⟨a', r', hp', _⟩ := hP'.at_
      rw [ea]
      exact .lst hp'
    · exact .lst (k _ _ e ea)
  | tup e => exact .tup (k _ _ e (ne_of e hp fun q => nomatch q))
  | dK e => exact .dK (k _ _ e (ne_of e hp fun q => nomatch q))
theorem okA_kp {H H' : Hp} {p L : Addr} {ns : List Int} {n m : Nat} {xs : List V} (hP : Pen H p L ns n) (hP' : Pen H' p L ns m) (h : ∀ x ∈ xs, Ok1 H x) (k : Kp p H H') : ∀ x ∈ xs, Ok1 H' x := fun x hx => th_kp hP hP' (h x hx) k
/-- what is kept of things: no text, or a text that is none of these -/
def keepV (zs : List Str) (x : V) : Bool := !isStr x || !inV x (zs.map V.str)
theorem keep_str {zs : List Str} {z : Str} (h : keepV zs (.str z) = true) : z ∉ zs := by
  unfold keepV at h
  rw [inV_strs, show isStr (.str z) = true from rfl, Bool.not_true, Bool.false_or, Bool.not_eq_true'] at h
  exact of_decide_eq_false h
theorem fnd_no {ms : List MaM} {z : Str} (h : z ∉ ms.map (·.name)) : fnd ms z = none := by
  cases e : fnd ms z with
  | none => rfl
  | some m =>
    obtain ⟨h1, h2⟩ := fnd_some e
    exact absurd (List.mem_map.mpr ⟨m, h1, h2⟩) h
theorem keep_fnd {ms : List MaM} {x : V} (h : keepV (ms.map (·.name)) x = true) : fndV ms x = none := by
  cases x with
  | str z => exact fnd_no (keep_str h)
  | _ => rfl
theorem fold_in {y : Str} : ∀ {l acc : List Str}, y ∈ acc ∨ y ∈ l → y ∈ l.foldl addN acc
  | [], acc, h => h.resolve_right fun q => nomatch q
  | z :: r, acc, h => by
    refine fold_in (l := r) (acc := addN acc z) ?_
    rcases h with h | h
    · left
      unfold addN
      split
      · exact h
      · exact List.mem_append_left _ h
    · rcases List.mem_cons.mp h with h | h
      · left
        unfold addN
        split
        · rw [h]; assumption
        · rw [h]; exact List.mem_append_right _ List.mem_cons_self
      · exact .inr h
theorem said_there {ms : List MaM} {z y : Str} (h : said (chn ms z) y ≠ []) : y ∈ there ms z := by
  obtain ⟨s, hs⟩ := List.exists_mem_of_ne_nil _ h
  obtain ⟨m, hm, _, hp, e⟩ := said_pl hs
  exact fold_in (.inr (List.mem_flatMap.mpr ⟨m, List.mem_reverse.mpr hm, List.mem_map.mpr ⟨s.2, hp, e⟩⟩))
theorem keep_said {ms : List MaM} {z : Str} {x : V} (h : keepV (there ms z) x = true) : saidV (chn ms z) x = [] := by
  cases x with
  | str y =>
    cases e : said (chn ms z) y with
    | nil => exact e
    | cons a r => exact absurd (said_there (by rw [e]; exact fun q => nomatch q)) (keep_str h)
  | _ => rfl
theorem there_len (ms : List MaM) (z : Str) (h : ∀ m ∈ chn ms z, m.own.length ≤ 8) : (there ms z).length ≤ 160 := by
  have h1 := fold_len (l := plN (chn ms z).reverse) (acc := [])
  have h2 := plN_len (l := (chn ms z).reverse) fun m hm => h m (List.mem_reverse.mp hm)
  have h3 := chn_len ms z
  rw [List.length_reverse] at h2
  have h4 : ([] : List Str).length = 0 := rfl
  show ((plN (chn ms z).reverse).foldl addN []).length ≤ 160
  omega
theorem filter_more {α : Type} {p : α → Bool} {l : List α} {i : Nat} {x : α} (e : l[i]? = some x) : (l.take (i + 1)).filter p = if p x = true then (l.take i).filter p ++ [x] else (l.take i).filter p := by
  rw [take_more e, List.filter_append]
  by_cases h : p x = true
  · rw [if_pos h, List.filter_cons_of_pos h] <;> rfl
  · rw [if_neg h, List.filter_cons_of_neg h, List.filter_nil, List.append_nil]
theorem strs_ok {H : Hp} {zs : List Str} (h : ∀ z ∈ zs, z.length ≤ 1000) : ∀ x ∈ zs.map V.str, Ok1 H x := fun x hx => by
  obtain ⟨z, hz, rfl⟩ := List.mem_map.mp hx
  exact ok_str (Nat.le_of_lt (small1000 (h z hz)))
end Gt

set_option Elab.async false
set_option linter.all false
set_option maxRecDepth 100000
set_option maxHeartbeats 2000000
namespace K7
open PySem PySem.Spec PyProof.Rows L2 GxR Gx Gd Gn Gm Gc Gk
def top (i : Nat) : Stmt := PySem.Challenge.pw_mastershow_k07_refused_of_masters.main.body.getD i (.Pass ⟨0, 0, 0, 0⟩)
abbrev FnP (K : PySem.W.Frag) (x : Str) (st : Stmt) (f : Addr) (fd : FuncData) : Prop := FunD K x x (defArgs st) (defBody st) (defScope st) [] [] f fd
structure Txt (mg : Str → Option Value) : Prop where
  m_len : mg "len" = none
  m_all : mg "all" = none
  m_bool : mg "bool" = none
  m_isinstance : mg "isinstance" = none
  m_list : mg "list" = none
  m_range : mg "range" = none
  m_str : mg "str" = none
  m_int : mg "int" = none
  m_tuple : mg "tuple" = none
  m_zip : mg "zip" = none
  m_reversed : mg "reversed" = none
  m_ValueError : mg "ValueError" = none
abbrev slaw_pen : Stmt := top 45
theorem sclaw_pen : FnScope ["script"] ["script"] (defScope slaw_pen) := ⟨rfl, rfl, rfl, by decide +kernel, rfl, by decide +kernel, by decide +kernel⟩
abbrev slaw_draw : Stmt := top 46
theorem sclaw_draw : FnScope ["pen", "many", "found", "at", "cell", "number"] ["pen", "many"] (defScope slaw_draw) := ⟨rfl, rfl, rfl, by decide +kernel, rfl, by decide +kernel, by decide +kernel⟩
abbrev slaw_traits : Stmt := top 51
theorem sclaw_traits : FnScope [] [] (defScope slaw_traits) := ⟨rfl, rfl, rfl, by decide +kernel, rfl, by decide +kernel, by decide +kernel⟩
abbrev slaw_worth : Stmt := top 50
theorem sclaw_worth : FnScope ["pen", "trait"] ["pen", "trait"] (defScope slaw_worth) := ⟨rfl, rfl, rfl, by decide +kernel, rfl, by decide +kernel, by decide +kernel⟩
abbrev slaw_line : Stmt := top 48
theorem sclaw_line : FnScope ["pen", "words", "line", "k"] ["pen"] (defScope slaw_line) := ⟨rfl, rfl, rfl, by decide +kernel, rfl, by decide +kernel, by decide +kernel⟩
abbrev slaw_lines : Stmt := top 49
theorem sclaw_lines : FnScope ["pen", "many", "k"] ["pen"] (defScope slaw_lines) := ⟨rfl, rfl, rfl, by decide +kernel, rfl, by decide +kernel, by decide +kernel⟩
abbrev slaw_place : Stmt := top 52
theorem sclaw_place : FnScope ["pen", "name", "settings", "trait"] ["pen", "name"] (defScope slaw_place) := ⟨rfl, rfl, rfl, by decide +kernel, rfl, by decide +kernel, by decide +kernel⟩
abbrev slaw_names : Stmt := top 47
theorem sclaw_names : FnScope ["pen", "many", "letters", "some", "step", "code", "k", "begin"] ["pen", "many"] (defScope slaw_names) := ⟨rfl, rfl, rfl, by decide +kernel, rfl, by decide +kernel, by decide +kernel⟩
abbrev slaw_masters : Stmt := top 53
theorem sclaw_masters : FnScope ["pen", "most", "pool", "names", "made", "k", "over", "own", "name"] ["pen", "most", "pool"] (defScope slaw_masters) := ⟨rfl, rfl, rfl, by decide +kernel, rfl, by decide +kernel, by decide +kernel⟩
section
variable {P : Program} {w : World} {K : PySem.W.Frag} {mg : Str → Option Value} {base : Heap}
theorem ok_draw {f : Addr} {fd : FuncData} (F : FnP K "_law_draw" slaw_draw f fd) (T : Txt mg) : FnOk P w K mg base CX0 1 f fd ["pen", "many"] spDraw := by
  refine okN F sclaw_draw (fun vs H Q E h => ?_) (fun cdv A outer s H vs Q E hr h => ?_)
  · obtain ⟨p, L, ns, n, many, rfl, _⟩ := h
    rfl
  · obtain ⟨p, L, ns, n, many, rfl, hP, h0, hm, hn, k⟩ := h
    refine ⟨_, (pss_cons (ps_if (pt_cmpR op_gt (pe_ix ix_list (pv 0) pe_int (fun _ _ => rfl)) pe_int (nomark _)) (pss_cons (ps_set (i := 2) sclaw_draw.nd rfl (Or.inl rfl) (pe_op op_mod (pe_ix ix_list (pv 0) pe_int (fun _ _ => rfl)) (pv 1)))
      (pss_cons (ps_asg (pe_op op_fdiv (pe_ix ix_list (pv 0) pe_int (fun _ _ => rfl)) (pv 1)) (pg_sub (pv 0) pe_int set_list))
      (pss_one (ps_ret (pv 2))))) pss_nil)
      (pss_cons (ps_set (i := 3) sclaw_draw.nd rfl (Or.inl rfl) (pe_ix ix_list (pv 0) pe_int (fun _ _ => rfl)))
      (pss_cons (ps_asg (pe_op op_add (pv 3) pe_int) (pg_sub (pv 0) pe_int set_list))
      (pss_cons (ps_set (i := 4) sclaw_draw.nd rfl (Or.inl rfl) pe_int)
      (pss_cons (ps_if (pt_cmpR op_gt (pe_callB call_len_seq (by rfl) T.m_len (by decide +kernel) (pa_cons (pe_ix ix_list (pv 0) pe_int (fun _ _ => rfl)) pa_nil)) pe_int (nomark _)) (pss_one (ps_set (i := 4) sclaw_draw.nd rfl (Or.inl rfl) (pe_ix ix_list (pe_ix ix_list (pv 0) pe_int (fun _ _ => rfl)) (pe_op op_mod (pv 3) (pe_callB call_len_seq (by rfl) T.m_len (by decide +kernel) (pa_cons (pe_ix ix_list (pv 0) pe_int (fun _ _ => rfl)) pa_nil))) (fun _ _ => rfl)))) pss_nil)
      (pss_cons (ps_if (PW.pt (pw_and (pt_cmpR op_lt (pv 3) (pe_callB call_len_seq (by rfl) T.m_len (by decide +kernel) (pa_cons (pe_ix ix_list (pv 0) pe_int (fun _ _ => rfl)) pa_nil)) (nomark _)) (pw_and1 (pt_cmpR op_ge (pv 4) (pe_op op_pow pe_int pe_int) (nomark _))))) (pss_cons (ps_asg (pe_op op_fdiv (pv 4) (pv 1)) (pg_sub (pv 0) pe_int set_list))
      (pss_one (ps_ret (pe_op op_mod (pv 4) (pv 1))))) pss_nil)
      (pss_cons (ps_set (i := 5) sclaw_draw.nd rfl (Or.inl rfl) (pe_op op_mod (pe_op op_mul (pe_op op_add (pe_op op_mod (pv 4) pe_int) pe_int) (pe_op op_add (pe_op op_add (pe_op op_mul (pv 3) (pv 3)) (pe_op op_mul pe_int (pv 3))) pe_int)) pe_int))
      (pss_one (ps_ret (pe_op op_mod (pe_op op_fdiv (pe_op op_mod (pe_op op_mul (pe_op op_mod (pe_op op_add (pe_op op_pow (pv 5) pe_int) (pe_op op_mul pe_int (pv 3))) pe_int) pe_int) pe_int) pe_int) (pv 1))))))))))), ?_⟩
    obtain ⟨a, r, hp, ha, han⟩ := hP.at_
    refine ⟨_, rfl, p, _, _, _, rfl, rfl, SqL.of hp, at_of (j := 2) rfl rfl, _, _, rfl, rfl, _, rfl, ite2 (fun hc => ?_) fun hc => ?_⟩
    · refine ⟨_, rfl, p, _, _, _, rfl, rfl, SqL.of hp, at_of (j := 2) rfl rfl, _, rfl, _, _, rfl, rfl, h0, ?_⟩
      refine ⟨_, rfl, p, _, _, _, rfl, rfl, SqL.of hp, at_of (j := 2) rfl rfl, _, rfl, _, _, rfl, rfl, ⟨h0, (by omega)⟩, _, rfl, p, _, _, 2, rfl, rfl, hp, rfl, ?_⟩
      refine ⟨_, rfl, k _ _ (Int.emod_nonneg _ (by omega)) (Int.emod_lt_of_pos _ h0) (hP.put ha (by omega)) But.upd⟩
    · -- at = pen[1]; pen[1] = at + 1; cell = 7
      refine ⟨_, rfl, p, _, _, _, rfl, rfl, SqL.of hp, at_of (j := 1) rfl rfl, ?_⟩
      refine ⟨_, rfl, _, _, rfl, rfl, _, rfl, p, _, _, 1, rfl, rfl, hp, rfl, ?_⟩
      have hP1 : Pen (upd H p (.lst [.ref L, .int (a + 1), .int r])) p L ns (n + 1) := hP.put (by omega) (by omega)
      have b1 : But p H (upd H p (.lst [.ref L, .int (a + 1), .int r])) := But.upd
      generalize eH : upd H p (.lst [.ref L, .int (a + 1), .int r]) = H1 at hP1 b1
      have hp1 : H1 p = some (.lst [.ref L, .int (a + 1), .int r]) := by rw [← eH]; exact upd_same
      have hl1 := hP1.ls
      show tSeq _ _ _ _ (upd H p (.lst [.ref L, .int (a + 1), .int r]))
      rw [eH]
      have eL : (ns.map V.int).length = ns.length := List.length_map ..
      apply viaInt
      · intro rest
        -- if len(pen[0]) > 0: cell = pen[0][at % len(pen[0])]
        refine ⟨_, rfl, p, _, _, _, rfl, rfl, SqL.of hp1, at_of (j := 0) rfl rfl, L, _, rfl, .inl (SqL.of hl1), _, _, rfl, rfl, _, rfl, ite2 (fun hc => ?_) fun hc => ?_⟩
        · have hpos : 0 < ns.length := by
            have h1 := of_decide_eq_true hc
            rw [eL] at h1
            omega
          have hlp : (0 : Int) < ((ns.length : Nat) : Int) := by omega
          have hm0 := Int.emod_nonneg a (show ((ns.length : Nat) : Int) ≠ 0 by omega)
          have hm1 := Int.emod_lt_of_pos a hlp
          obtain ⟨j, ej⟩ : ∃ j : Nat, a % ((ns.length : Nat) : Int) = (j : Int) := ⟨_, (Int.toNat_of_nonneg hm0).symm⟩
          have hj : j < ns.length := by
            rw [ej] at hm1
            omega
          refine ⟨_, rfl, p, _, _, _, rfl, rfl, SqL.of hp1, at_of (j := 0) rfl rfl, _, rfl, _, rfl, p, _, _, _, rfl, rfl, SqL.of hp1, at_of (j := 0) rfl rfl, L, _, rfl, .inl (SqL.of hl1), _, _, rfl, rfl, (by rw [eL]; exact hlp), ?_⟩
          obtain ⟨cell, ec⟩ : ∃ z, ns[j]? = some z := ⟨_, List.getElem?_eq_getElem hj⟩
          refine ⟨L, _, _, .int cell, rfl, rfl, SqL.of hl1, at_of (j := j) (by rw [eL]; exact ej) (by rw [List.getElem?_map, ec]; rfl), ?_⟩
          exact rest cell
        · exact rest 7
      · intro cell
        -- if at < len(pen[0]) and cell >= 10 ** 18
        refine ⟨_, rfl, _, rfl, p, _, _, _, rfl, rfl, SqL.of hp1, at_of (j := 0) rfl rfl, L, _, rfl, .inl (SqL.of hl1), _, _, rfl, rfl, _, rfl, ?_⟩
        have c1 : (0 : Int) ≤ cell % 2147483629 := Int.emod_nonneg _ (by decide)
        have c2 : cell % 2147483629 < 2147483629 := Int.emod_lt_of_pos _ (by decide)
        · refine ite2 (fun _ => ?_) fun _ => ?_
          · refine ⟨_, rfl, _, _, rfl, rfl, ⟨by decide, by decide, by decide⟩, _, _, rfl, rfl, _, rfl, ite2 (fun _ => ?_) fun _ => ?_⟩
            · refine ⟨_, rfl, _, rfl, _, _, rfl, rfl, ⟨h0, (by omega)⟩, _, rfl, p, _, _, 2, rfl, rfl, hp1, rfl, ?_⟩
              refine ⟨_, rfl, _, rfl, _, _, rfl, rfl, h0, ?_⟩
              exact k _ _ (Int.emod_nonneg _ (by omega)) (Int.emod_lt_of_pos _ h0) (hP1.put (by omega) (by omega)) (b1.trans But.upd)
            · refine ⟨_, rfl, _, _, rfl, rfl, (by show (0 : Int) < _; decide), _, _, rfl, rfl, _, rfl, _, rfl, _, _, rfl, rfl, .inl ⟨by omega, by omega⟩, _, rfl, _, _, rfl, rfl, .inl ⟨by decide, by decide⟩, _, _, rfl, rfl, _, _, rfl, rfl, _, _, rfl, rfl, .inl ⟨by omega, by omega⟩, _, _, rfl, rfl, (by show (0 : Int) < _; decide), ?_⟩
              generalize eN : (cell % 2147483629 + 11) * (a * a + 5 * a + 3) % 2147483647 = N
              have n1 : (0 : Int) ≤ N := by rw [← eN]; exact Int.emod_nonneg _ (by decide)
              have n2 : N < 2147483647 := by rw [← eN]; exact Int.emod_lt_of_pos _ (by decide)
              refine ⟨_, rfl, _, _, rfl, rfl, ⟨by decide, by decide, by omega⟩, _, rfl, _, _, rfl, rfl, .inl ⟨by decide, by decide⟩, _, _, rfl, rfl, _, _, rfl, rfl, (by show (0 : Int) < _; decide), ?_⟩
              generalize eM : (N ^ (3 : Int).toNat + 69621 * a) % 2147483587 = M
              have m1 : (0 : Int) ≤ M := by rw [← eM]; exact Int.emod_nonneg _ (by decide)
              have m2 : M < 2147483587 := by rw [← eM]; exact Int.emod_lt_of_pos _ (by decide)
              refine ⟨_, _, rfl, rfl, .inl ⟨by omega, by omega⟩, _, _, rfl, rfl, (by show (0 : Int) < _; decide), _, _, rfl, rfl, ⟨by decide, by decide⟩, _, rfl, _, _, rfl, rfl, h0, ?_⟩
              exact k _ _ (Int.emod_nonneg _ (by omega)) (Int.emod_lt_of_pos _ h0) hP1 b1
          · refine iteF ?_
            refine ⟨_, rfl, _, _, rfl, rfl, (by show (0 : Int) < _; decide), _, _, rfl, rfl, _, rfl, _, rfl, _, _, rfl, rfl, .inl ⟨by omega, by omega⟩, _, rfl, _, _, rfl, rfl, .inl ⟨by decide, by decide⟩, _, _, rfl, rfl, _, _, rfl, rfl, _, _, rfl, rfl, .inl ⟨by omega, by omega⟩, _, _, rfl, rfl, (by show (0 : Int) < _; decide), ?_⟩
            generalize eN : (cell % 2147483629 + 11) * (a * a + 5 * a + 3) % 2147483647 = N
            have n1 : (0 : Int) ≤ N := by rw [← eN]; exact Int.emod_nonneg _ (by decide)
            have n2 : N < 2147483647 := by rw [← eN]; exact Int.emod_lt_of_pos _ (by decide)
            refine ⟨_, rfl, _, _, rfl, rfl, ⟨by decide, by decide, by omega⟩, _, rfl, _, _, rfl, rfl, .inl ⟨by decide, by decide⟩, _, _, rfl, rfl, _, _, rfl, rfl, (by show (0 : Int) < _; decide), ?_⟩
            generalize eM : (N ^ (3 : Int).toNat + 69621 * a) % 2147483587 = M
            have m1 : (0 : Int) ≤ M := by rw [← eM]; exact Int.emod_nonneg _ (by decide)
            have m2 : M < 2147483587 := by rw [← eM]; exact Int.emod_lt_of_pos _ (by decide)
            refine ⟨_, _, rfl, rfl, .inl ⟨by omega, by omega⟩, _, _, rfl, rfl, (by show (0 : Int) < _; decide), _, _, rfl, rfl, ⟨by decide, by decide⟩, _, rfl, _, _, rfl, rfl, h0, ?_⟩
            exact k _ _ (Int.emod_nonneg _ (by omega)) (Int.emod_lt_of_pos _ h0) hP1 b1

/-! ### the pen is made -/
def spPen (K : PySem.W.Frag) : Sp := fun vs H Q _ => ∃ (a : Addr) (ns : List Int), vs = [.ref a] ∧ SqL K H a (ns.map V.int) ∧ ns.length ≤ 63 ∧ ∀ (p L : Addr) (H' : Hp), H p = none → H L = none → Pen H' p L ns 0 → Same H H' → Q (.ref p) H'
theorem ok_pen {f : Addr} {fd : FuncData} (F : FnP K "_law_pen" slaw_pen f fd) (T : Txt mg) : FnOk P w K mg base CX0 1 f fd ["script"] (spPen K) := by
  refine okN F sclaw_pen (fun vs H Q E h => ?_) (fun cdv A outer s H vs Q E hr h => ?_)
  · obtain ⟨a, ns, rfl, _⟩ := h
    rfl
  · obtain ⟨a, ns, rfl, hS, hl, q⟩ := h
    refine ⟨_, (pss_one (ps_ret (pe_lst (pa_cons (pe_callTy call_list_of (by rfl) T.m_list (by decide +kernel) (pa_cons (pe_slice sl_list (pv 0) po_none (po_some pe_int)) pa_nil)) (pa_cons pe_int (pa_cons pe_int pa_nil)))))), ?_⟩
    refine ⟨.ref a, rfl, 63, rfl, a, ns.map V.int, rfl, hS, fun c hc => ?_⟩
    have ec : cutV (ns.map V.int) none (some 63) = ns.map V.int := cut63 (by rw [List.length_map]; exact hl)
    rw [ec]
    refine ⟨c, _, rfl, .inl (SqL.of upd_same), fun L hL => ?_⟩
    refine ⟨(by show 3 ≤ sizeLine; decide), fun p hp => ?_⟩
    have s1 : Same H (upd H c (.lst (ns.map V.int))) := fun b o e => by rw [upd_ne (ne_of_none e hc)]; exact e
    have s2 : Same (upd H c (.lst (ns.map V.int))) (upd (upd H c (.lst (ns.map V.int))) L (.lst (ns.map V.int))) := fun b o e => by rw [upd_ne (ne_of_none e hL)]; exact e
    have s3 : Same (upd (upd H c (.lst (ns.map V.int))) L (.lst (ns.map V.int))) (upd (upd (upd H c (.lst (ns.map V.int))) L (.lst (ns.map V.int))) p (.lst [.ref L, .int 0, .int 0])) := fun b o e => by rw [upd_ne (ne_of_none e hp)]; exact e
    have hLp : L ≠ p := ne_of_none upd_same hp
    exact q p L _ ((s1.trans s2).free hp) (s1.free hL) ⟨⟨0, 0, upd_same, Int.le_refl _, Int.le_refl _⟩, by rw [upd_ne hLp]; exact upd_same, hl⟩ ((s1.trans s2).trans s3)

/-! ### traits, worths drawn -/
def spTraits : Sp := fun vs H Q _ => vs = [] ∧ ∀ c H', H' c = some (.lst (TRS.map V.str)) → Same H H' → H c = none → Q (.ref c) H'
theorem ok_traits {f : Addr} {fd : FuncData} (F : FnP K "_law_traits" slaw_traits f fd) : FnOk P w K mg base CX0 1 f fd [] spTraits := by
  refine okN F sclaw_traits (fun vs H Q E h => ?_) (fun cdv A outer s H vs Q E hr h => ?_)
  · obtain ⟨rfl, _⟩ := h
    rfl
  · obtain ⟨rfl, q⟩ := h
    refine ⟨_, (pss_one (ps_ret (pe_lst (pa_cons pe_str (pa_cons pe_str (pa_cons pe_str (pa_cons pe_str (pa_cons pe_str (pa_cons pe_str pa_nil))))))))), ?_⟩
    exact ⟨(by show 6 ≤ sizeLine; decide), fun c hc => q c _ upd_same (same_new hc) hc⟩
def spWorthL (K : PySem.W.Frag) : Sp := fun vs H Q _ => ∃ (p L : Addr) (ns : List Int) (n : Nat) (z : Str), vs = [.ref p, .str z] ∧ z ∈ TRS ∧ Pen H p L ns n ∧ n + 100 < 1000000 ∧
  ∀ (v : V) (d : PyData) (H' : Hp), Dp K H' v d → wOk z d = true → Pen H' p L ns (n + 4) → Kp p H H' → Q v H'
theorem ok_worthL {f : Addr} {fd : FuncData} (F : FnP K "_law_worth" slaw_worth f fd) (D_law_draw : Dn P w K mg base 1 "_law_draw" ["pen", "many"] spDraw) : FnOk P w K mg base CX0 2 f fd ["pen", "trait"] (spWorthL K) := by
  refine okN F sclaw_worth (fun vs H Q E h => ?_) (fun cdv A outer s H vs Q E hr h => ?_)
  · obtain ⟨p, L, ns, n, z, rfl, _⟩ := h
    rfl
  · obtain ⟨p, L, ns, n, z, rfl, mz, hP, hn, q⟩ := h
    refine ⟨_, (pss_cons (ps_if (pt_cmpR op_eq (pv 1) pe_str (nomark _)) (pss_one (ps_ret (pe_ix ix_list (pe_lst (pa_cons pe_str (pa_cons pe_str (pa_cons pe_str (pa_cons pe_str (pa_cons pe_str pa_nil)))))) (pe_dn D_law_draw (hr.mono (by decide)) rfl (pa_cons (pv 0) (pa_cons pe_int pa_nil))) (fun _ _ => rfl)))) pss_nil)
      (pss_cons (ps_if (pt_cmpR op_in_seq (pv 1) (pe_tup (pa_cons pe_str (pa_cons pe_str pa_nil))) rfl) (pss_one (ps_ret (pe_ix ix_list (pe_lst (pa_cons (pe_dn D_law_draw (hr.mono (by decide)) rfl (pa_cons (pv 0) (pa_cons pe_int pa_nil))) (pa_cons (pe_op op_add (pe_un un_neg pe_int) (pe_dn D_law_draw (hr.mono (by decide)) rfl (pa_cons (pv 0) (pa_cons pe_int pa_nil)))) (pa_cons (pe_un un_neg pe_int) (pa_cons pe_int pa_nil))))) (pe_dn D_law_draw (hr.mono (by decide)) rfl (pa_cons (pv 0) (pa_cons pe_int pa_nil))) (fun _ _ => rfl)))) pss_nil)
      (pss_cons (ps_if (pt_cmpR op_eq (pv 1) pe_str (nomark _)) (pss_one (ps_ret (pe_ix ix_list (pe_lst (pa_cons pe_int (pa_cons pe_int (pa_cons pe_int (pa_cons (pe_op op_add pe_int (pe_dn D_law_draw (hr.mono (by decide)) rfl (pa_cons (pv 0) (pa_cons pe_int pa_nil)))) (pa_cons pe_int pa_nil)))))) (pe_dn D_law_draw (hr.mono (by decide)) rfl (pa_cons (pv 0) (pa_cons pe_int pa_nil))) (fun _ _ => rfl)))) pss_nil)
      (pss_one (ps_ret (pe_ix ix_list (pe_lst (pa_cons (pe_op op_add pe_int (pe_dn D_law_draw (hr.mono (by decide)) rfl (pa_cons (pv 0) (pa_cons pe_int pa_nil)))) (pa_cons (pe_op op_add pe_int (pe_dn D_law_draw (hr.mono (by decide)) rfl (pa_cons (pv 0) (pa_cons pe_int pa_nil)))) (pa_cons (pe_op op_add pe_int (pe_dn D_law_draw (hr.mono (by decide)) rfl (pa_cons (pv 0) (pa_cons pe_int pa_nil)))) (pa_cons pe_int (pa_cons pe_int pa_nil)))))) (pe_dn D_law_draw (hr.mono (by decide)) rfl (pa_cons (pv 0) (pa_cons pe_int pa_nil))) (fun _ _ => rfl))))))), ?_⟩
    refine ⟨_, rfl, rfl, _, rfl, iteB (fun h1 => ?_) fun h1 => ?_⟩
    · have e1 : z = "ink" := V.str.inj (of_decide_eq_true h1)
      refine ⟨(by show 5 ≤ sizeLine; decide), fun D hD => ?_⟩
      have nD : D ≠ p := hP.lt_new hD
      refine ⟨_, rfl, p, L, ns, n, 5, rfl, hP.new hD, (by decide), (by decide), (by omega), fun k H1 k0 k1 hP1 b1 => ?_⟩
      obtain ⟨v, e, hv⟩ := listAt (xs := [V.str "plain", V.str "red", V.str "b1", V.str "abcdefg8", V.str "z"]) k0 k1
      refine ⟨D, _, _, v, rfl, rfl, SqL.of ((b1 D nD).trans upd_same), e, ?_⟩
      have kp : Kp p H H1 := (Kp.new hD).trans b1.kp
      have go : ∀ s : Str, v = .str s → nameB s = true → Q v H1 := fun s ev hs => by
        subst ev
        exact q _ (.str s) H1 (.str s) (by show (decide (z = "ink") && nameB s) = true; rw [decide_eq_true e1, hs] <;> rfl) (hP1.up (by omega)) kp
      simp only [List.mem_cons, List.not_mem_nil, or_false] at hv
      rcases hv with rfl | rfl | rfl | rfl | rfl <;> exact go _ rfl (by decide +kernel)
    · have n1 : z ≠ "ink" := fun e => of_decide_eq_false h1 (by rw [e])
      have fin : ∀ (v : V) (H' : Hp), (∃ i, v = .int i ∧ (bnd z).1 ≤ i ∧ i ≤ (bnd z).2) → Pen H' p L ns (n + 4) → Kp p H H' → Q v H' := fun v H' hv hP' k' => by
        obtain ⟨i, rfl, i1, i2⟩ := hv
        exact q _ (.int i) H' (.int i) (wOk_int n1 i1 i2) hP' k'
      refine ⟨_, rfl, (by show 2 ≤ sizeLine; decide), fun t ht => ?_⟩
      refine ⟨t, _, rfl, .inr (SqT.of upd_same), rfl, rfl, _, rfl, ?_⟩
      have hP0 : Pen (upd H t (.tup [V.str "left", V.str "top"])) p L ns n := hP.new ht
      have k0 : Kp p H (upd H t (.tup [V.str "left", V.str "top"])) := Kp.new ht
      revert hP0 k0
      generalize upd H t (.tup [V.str "left", V.str "top"]) = H0
      intro hP0 k0
      refine iteB (fun h2 => ?_) fun h2 => ?_
      · have hb : bnd z = (-999, 999) := by
          obtain ⟨y, hy, e⟩ := List.any_eq_true.mp (show ([V.str "left", V.str "top"].any fun y => eqV y (.str z)) = true from h2)
          simp only [List.mem_cons, List.not_mem_nil, or_false] at hy
          rcases hy with rfl | rfl <;> (rw [← (beq_iff_eq.mp e : _ = z)]; decide +kernel)
        rw [hb] at fin
        refine ⟨_, rfl, p, L, ns, n, 9, rfl, hP0, (by decide), (by decide), (by omega), fun a1 H1 a10 a11 hP1 b1 => ?_⟩
        refine ⟨_, rfl, _, rfl, p, L, ns, _, 1999, rfl, hP1, (by decide), (by decide), (by omega), fun a2 H2 a20 a21 hP2 b2 => ?_⟩
        refine ⟨_, _, rfl, rfl, _, rfl, (by show 4 ≤ sizeLine; decide), fun D hD => ?_⟩
        have nD : D ≠ p := hP2.lt_new hD
        refine ⟨_, rfl, p, L, ns, _, 4, rfl, hP2.new hD, (by decide), (by decide), (by omega), fun k H3 k0' k1' hP3 b3 => ?_⟩
        obtain ⟨v, e, hv⟩ := listAt (xs := [V.int a1, V.int (-999 + a2), V.int (-999), V.int 999]) k0' k1'
        refine ⟨D, _, _, v, rfl, rfl, SqL.of ((b3 D nD).trans upd_same), e, ?_⟩
        refine fin v H3 ?_ (hP3.up (by omega)) ((((k0.trans b1.kp).trans b2.kp).trans (Kp.new hD)).trans b3.kp)
        simp only [List.mem_cons, List.not_mem_nil, or_false] at hv
        rcases hv with rfl | rfl | rfl | rfl
        · exact ⟨_, rfl, (by show (-999 : Int) ≤ a1; omega), (by show a1 ≤ 999; omega)⟩
        · exact ⟨_, rfl, (by show (-999 : Int) ≤ -999 + a2; omega), (by show -999 + a2 ≤ 999; omega)⟩
        · exact ⟨_, rfl, (by decide), (by decide)⟩
        · exact ⟨_, rfl, (by decide), (by decide)⟩
      · refine ⟨_, rfl, rfl, _, rfl, iteB (fun h3 => ?_) fun h3 => ?_⟩
        · have e3 : z = "size" := V.str.inj (of_decide_eq_true h3)
          have hb : bnd z = (1, 99) := by rw [e3]; decide +kernel
          rw [hb] at fin
          refine ⟨_, rfl, p, L, ns, n, 99, rfl, hP0, (by decide), (by decide), (by omega), fun a1 H1 a10 a11 hP1 b1 => ?_⟩
          refine ⟨_, _, rfl, rfl, (by show 5 ≤ sizeLine; decide), fun D hD => ?_⟩
          have nD : D ≠ p := hP1.lt_new hD
          refine ⟨_, rfl, p, L, ns, _, 5, rfl, hP1.new hD, (by decide), (by decide), (by omega), fun k H3 k0' k1' hP3 b3 => ?_⟩
          obtain ⟨v, e, hv⟩ := listAt (xs := [V.int 1, V.int 2, V.int 3, V.int (1 + a1), V.int 99]) k0' k1'
          refine ⟨D, _, _, v, rfl, rfl, SqL.of ((b3 D nD).trans upd_same), e, ?_⟩
          refine fin v H3 ?_ (hP3.up (by omega)) (((k0.trans b1.kp).trans (Kp.new hD)).trans b3.kp)
          simp only [List.mem_cons, List.not_mem_nil, or_false] at hv
          rcases hv with rfl | rfl | rfl | rfl | rfl
          · exact ⟨_, rfl, (by decide), (by decide)⟩
          · exact ⟨_, rfl, (by decide), (by decide)⟩
          · exact ⟨_, rfl, (by decide), (by decide)⟩
          · exact ⟨_, rfl, (by show (1 : Int) ≤ 1 + a1; omega), (by show 1 + a1 ≤ 99; omega)⟩
          · exact ⟨_, rfl, (by decide), (by decide)⟩
        · have n3 : z ≠ "size" := fun e => of_decide_eq_false h3 (by rw [e])
          have hb : bnd z = (1, 999) := by
            simp only [TRS, List.mem_cons, List.not_mem_nil, or_false] at mz
            rcases mz with rfl | rfl | rfl | rfl | rfl | rfl
            · exact absurd h2 (by decide +kernel)
            · exact absurd h2 (by decide +kernel)
            · decide +kernel
            · decide +kernel
            · exact absurd rfl n3
            · exact absurd rfl n1
          rw [hb] at fin
          refine ⟨_, rfl, p, L, ns, n, 30, rfl, hP0, (by decide), (by decide), (by omega), fun a1 H1 a10 a11 hP1 b1 => ?_⟩
          refine ⟨_, _, rfl, rfl, _, rfl, p, L, ns, _, 60, rfl, hP1, (by decide), (by decide), (by omega), fun a2 H2 a20 a21 hP2 b2 => ?_⟩
          refine ⟨_, _, rfl, rfl, _, rfl, p, L, ns, _, 999, rfl, hP2, (by decide), (by decide), (by omega), fun a3 H3 a30 a31 hP3 b3 => ?_⟩
          refine ⟨_, _, rfl, rfl, (by show 5 ≤ sizeLine; decide), fun D hD => ?_⟩
          have nD : D ≠ p := hP3.lt_new hD
          refine ⟨_, rfl, p, L, ns, _, 5, rfl, hP3.new hD, (by decide), (by decide), (by omega), fun k H4 k0' k1' hP4 b4 => ?_⟩
          obtain ⟨v, e, hv⟩ := listAt (xs := [V.int (1 + a1), V.int (1 + a2), V.int (1 + a3), V.int 1, V.int 999]) k0' k1'
          refine ⟨D, _, _, v, rfl, rfl, SqL.of ((b4 D nD).trans upd_same), e, ?_⟩
          refine fin v H4 ?_ (hP4.up (by omega)) (((((k0.trans b1.kp).trans b2.kp).trans b3.kp).trans (Kp.new hD)).trans b4.kp)
          simp only [List.mem_cons, List.not_mem_nil, or_false] at hv
          rcases hv with rfl | rfl | rfl | rfl | rfl
          · exact ⟨_, rfl, (by show (1 : Int) ≤ 1 + a1; omega), (by show 1 + a1 ≤ 999; omega)⟩
          · exact ⟨_, rfl, (by show (1 : Int) ≤ 1 + a2; omega), (by show 1 + a2 ≤ 999; omega)⟩
          · exact ⟨_, rfl, (by show (1 : Int) ≤ 1 + a3; omega), (by show 1 + a3 ≤ 999; omega)⟩
          · exact ⟨_, rfl, (by decide), (by decide)⟩
          · exact ⟨_, rfl, (by decide), (by decide)⟩

/-! ### lines drawn -/
def WRD : List Str := ["a", "Word", "end.", "{n}", "{all}", "{name}", "don't;", "", "", Txt.mul "x" 23, "{n", "{{n}}", "{N} ~!", "word"]
theorem wrd_ok : ∀ y ∈ WRD, y.length ≤ 23 ∧ okS y := by decide +kernel
def spLineL : Sp := fun vs H Q _ => ∃ (p L : Addr) (ns : List Int) (n : Nat), vs = [.ref p] ∧ Pen H p L ns n ∧ n + 100 < 1000000 ∧ ∀ (z : Str) (H' : Hp), z.length ≤ 60 → okS z → Pen H' p L ns (n + 8) → Kp p H H' → Q (.str z) H'
theorem ok_lineL {f : Addr} {fd : FuncData} (F : FnP K "_law_line" slaw_line f fd) (T : Txt mg) (D_law_draw : Dn P w K mg base 1 "_law_draw" ["pen", "many"] spDraw) : FnOk P w K mg base CX0 2 f fd ["pen"] spLineL := by
  refine okN F sclaw_line (fun vs H Q E h => ?_) (fun cdv A outer s H vs Q E hr h => ?_)
  · obtain ⟨p, L, ns, n, rfl, _⟩ := h
    rfl
  · obtain ⟨p, L, ns, n, rfl, hP, hn, q⟩ := h
    refine ⟨_, (pss_cons (ps_set (i := 1) sclaw_line.nd rfl (Or.inr rfl) (pe_lst (pa_cons pe_str (pa_cons pe_str (pa_cons pe_str (pa_cons pe_str (pa_cons pe_str (pa_cons pe_str (pa_cons pe_str (pa_cons pe_str (pa_cons pe_str (pa_cons (pe_op op_mul_str pe_str pe_int) (pa_cons pe_str (pa_cons pe_str (pa_cons pe_str (pa_cons pe_str pa_nil))))))))))))))))
      (pss_cons (ps_set (i := 2) sclaw_line.nd rfl (Or.inl rfl) (pe_join pe_str (pe_lc (own := [("k", 3)]) (g := gName 3) (by rfl) sclaw_line.nd (pi_range1 rfl T.m_range (pa_cons (pe_dn D_law_draw (hr.mono (by decide)) rfl (pa_cons (pv 0) (pa_cons pe_int pa_nil))) pa_nil)) (blkOk_by (own := [("k", 3)]) (N := ["pen", "words", "line", "k"]) (sc := defScope slaw_line) (by decide +kernel)) (fun _ _ _ _ _ => (pg_name (i := 3) sclaw_line.nd rfl (Or.inl rfl))) (fun _ _ _ _ _ => pts_nil) (fun _ _ _ _ _ => (pe_ix (r := rIxL K) ix_list (pv 1) (pe_dn D_law_draw (hr.mono (by decide)) rfl (pa_cons (pv 0) (pa_cons pe_int pa_nil))) (fun _ _ => rfl))))))
      (pss_one (ps_ret (pe_slice sl_str (pv 2) po_none (po_some (pe_ix ix_list (pe_lst (pa_cons pe_int (pa_cons pe_int (pa_cons pe_int pa_nil)))) (pe_dn D_law_draw (hr.mono (by decide)) rfl (pa_cons (pv 0) (pa_cons pe_int pa_nil))) (fun _ _ => rfl)))))))), ?_⟩
    refine ⟨("x" : Str), 23, rfl, rfl, mulOk (by decide +kernel) (by decide) (by decide), (by show 14 ≤ sizeLine; decide), fun W hW => ?_⟩
    have nW : W ≠ p := hP.lt_new hW
    have xW : (upd H W (.lst (WRD.map V.str))) W = some (.lst (WRD.map V.str)) := upd_same
    have hP0 : Pen (upd H W (.lst (WRD.map V.str))) p L ns n := hP.new hW
    have k0 : Kp p H (upd H W (.lst (WRD.map V.str))) := Kp.new hW
    revert xW hP0 k0
    show _ → _ → _ → tSeq _ _ _ _ (upd H W (.lst (WRD.map V.str)))
    generalize upd H W (.lst (WRD.map V.str)) = H0
    intro xW hP0 k0
    refine ⟨⟨_, rfl⟩, _, rfl, p, L, ns, n, 6, rfl, hP0, (by decide), (by decide), (by omega), fun k2 H2 k20 k21 hP2 b2 => ?_⟩
    refine ⟨k2, rfl, (by omega), (by omega), fun D hD => ?_⟩
    have nD : D ≠ p := hP2.lt_new hD
    have kD : Kp p H (upd H2 D (.lst [])) := (k0.trans b2.kp).trans (Kp.new hD)
    have x2 : H2 W = some (.lst (WRD.map V.str)) := (b2 W nW).trans xW
    have nWD : W ≠ D := ne_of_none x2 hD
    refine lc_range (lo := 0) (n := k2.toNat) (fun i H3 => ∃ ys : List Str, ys.length = i ∧ (∀ y ∈ ys, y.length ≤ 23 ∧ okS y) ∧ H3 D = some (.lst (ys.map V.str)) ∧ Pen H3 p L ns (n + 1 + i) ∧ Kp p H H3 ∧ H3 W = some (.lst (WRD.map V.str))) ?_ ?_ ?_
    · exact ⟨[], rfl, fun y hy => (nomatch hy), upd_same, hP2.new hD, kD, (upd_ne nWD).trans x2⟩
    · rintro i H3 hi ⟨ys, hl, h1, hD3, hP3, k3, x3⟩
      refine ⟨rfl, ?_⟩
      refine ⟨_, rfl, _, rfl, p, L, ns, _, 14, rfl, hP3, (by decide), (by decide), (by omega), fun k4 H4 k40 k41 hP4 b4 => ?_⟩
      obtain ⟨v, e4, hv⟩ := listAt (xs := WRD.map V.str) k40 k41
      obtain ⟨y, my, rfl⟩ := List.mem_map.mp hv
      refine ⟨W, _, _, _, rfl, rfl, SqL.of ((b4 W nW).trans x3), e4, ?_⟩
      have hD4 : H4 D = some (.lst (ys.map V.str)) := (b4 D nD).trans hD3
      have hP5 : Pen (upd H4 D (.lst (ys.map V.str ++ [V.str y]))) p L ns (n + 1 + i + 1) := hP4.keep (upd_ne nD.symm) (upd_ne (ne_of_none hP2.ls hD))
      refine ⟨_, hD4, ?_, ys ++ [y], ?_, ?_, ?_, hP5.up (by omega), ?_, ?_⟩
      · rw [List.length_map, hl]
        exact small1000 (by omega)
      · rw [List.length_append, hl] <;> rfl
      · intro x hx
        rcases List.mem_append.mp hx with hx | hx
        · exact h1 x hx
        · rw [List.mem_singleton.mp hx]
          exact wrd_ok y my
      · rw [upd_same, List.map_append] <;> rfl
      · intro b o e nb
        rw [upd_ne (ne_of_none ((k0.trans b2.kp) b o e nb) hD)]
        exact b4.kp b o (k3 b o e nb) nb
      · rw [upd_ne nWD]
        exact (b4 W nW).trans x3
    · rintro H3 ⟨ys, hl, h1, hD3, hP3, k3, x3⟩
      have hs := sum_le (m := 23) fun y hy => (h1 y hy).1
      refine ⟨(" " : Str), D, ys, rfl, rfl, .inl (SqL.of hD3), ?_, ?_⟩
      · rw [show (" " : Str).length = 1 by decide +kernel]
        omega
      have hj := StrLaws.join_length_le (" " : Str) ys
      rw [show (" " : Str).length = 1 by decide +kernel] at hj
      have jl : (Txt.join (" " : Str) ys).length ≤ 1000 := by
        rw [show Txt.join (" " : Str) ys = Str.join (" " : Str) ys from StrLaws.glued_eq_join (" " : Str) ys]
        omega
      have js : okS (Txt.join (" " : Str) ys) := okS_join (by decide +kernel) fun y hy => (h1 y hy).2
      generalize Txt.join (" " : Str) ys = z at jl js
      refine ⟨_, rfl, (by show 3 ≤ sizeLine; decide), fun M hM => ?_⟩
      have nM : M ≠ p := hP3.lt_new hM
      refine ⟨_, rfl, p, L, ns, _, 3, rfl, hP3.new hM, (by decide), (by decide), (by omega), fun k5 H5 k50 k51 hP5 b5 => ?_⟩
      obtain ⟨v, e5, hv⟩ := listAt (xs := [V.int 60, V.int 60, V.int 7]) k50 k51
      refine ⟨M, _, _, v, rfl, rfl, SqL.of ((b5 M nM).trans upd_same), e5, ?_⟩
      obtain ⟨m, rfl, hm⟩ : ∃ m : Nat, v = .int (m : Int) ∧ m ≤ 60 := by
        simp only [List.mem_cons, List.not_mem_nil, or_false] at hv
        rcases hv with rfl | rfl | rfl
        · exact ⟨60, rfl, by decide⟩
        · exact ⟨60, rfl, by decide⟩
        · exact ⟨7, rfl, by decide⟩
      refine ⟨_, rfl, z, rfl, Nat.le_of_lt (small1000 jl), ?_⟩
      exact q _ H5 (Nat.le_trans cut_le hm) (okS_cut js) (hP5.up (by omega)) ((k3.trans (Kp.new hM)).trans b5.kp)

def spLinesL (K : PySem.W.Frag) : Sp := fun vs H Q _ => ∃ (p L : Addr) (ns : List Int) (n : Nat), vs = [.ref p] ∧ Pen H p L ns n ∧ n + 200 < 1000000 ∧ ∀ (v : V) (ls : List Str) (H' : Hp), Dp K H' v (.tuple (ls.map .str)) → goodL ls → Pen H' p L ns (n + 110) → Kp p H H' → Q v H'
theorem ok_linesL {f : Addr} {fd : FuncData} (F : FnP K "_law_lines" slaw_lines f fd) (T : Txt mg) (D_law_draw : Dn P w K mg base 1 "_law_draw" ["pen", "many"] spDraw) (D_law_line : Dn P w K mg base 2 "_law_line" ["pen"] spLineL) : FnOk P w K mg base CX0 3 f fd ["pen"] (spLinesL K) := by
  refine okN F sclaw_lines (fun vs H Q E h => ?_) (fun cdv A outer s H vs Q E hr h => ?_)
  · obtain ⟨p, L, ns, n, rfl, _⟩ := h
    rfl
  · obtain ⟨p, L, ns, n, rfl, hP, hn, q⟩ := h
    refine ⟨_, (pss_cons (ps_set (i := 1) sclaw_lines.nd rfl (Or.inr rfl) (pe_ix ix_list (pe_lst (pa_cons (pe_dn D_law_draw (hr.mono (by decide)) rfl (pa_cons (pv 0) (pa_cons pe_int pa_nil))) (pa_cons (pe_dn D_law_draw (hr.mono (by decide)) rfl (pa_cons (pv 0) (pa_cons pe_int pa_nil))) (pa_cons pe_int pa_nil)))) (pe_dn D_law_draw (hr.mono (by decide)) rfl (pa_cons (pv 0) (pa_cons pe_int pa_nil))) (fun _ _ => rfl)))
      (pss_one (ps_ret (pe_callTy call_tuple_of (by rfl) T.m_tuple (by decide +kernel) (pa_cons (pe_lc (own := [("k", 2)]) (g := gName 2) (by rfl) sclaw_lines.nd (pi_range1 rfl T.m_range (pa_cons (pv 1) pa_nil)) (blkOk_by (own := [("k", 2)]) (N := ["pen", "many", "k"]) (sc := defScope slaw_lines) (by decide +kernel)) (fun _ _ _ _ _ => (pg_name (i := 2) sclaw_lines.nd rfl (Or.inl rfl))) (fun _ _ _ _ _ => pts_nil) (fun _ _ _ _ _ => (pe_slice sl_str (pe_dn D_law_line (hr.mono (by decide)) rfl (pa_cons (pv 0) pa_nil)) po_none (po_some (pe_ix (r := rIxL K) ix_list (pe_lst (pa_cons pe_int (pa_cons pe_int pa_nil))) (pe_callTy call_int1 (by rfl) T.m_int (by decide +kernel) (pa_cons (pe_cmpR op_gt (pv 1) pe_int (nomark _)) pa_nil)) (fun _ _ => rfl)))))) pa_nil))))), ?_⟩
    refine ⟨_, rfl, p, L, ns, n, 4, rfl, hP, (by decide), (by decide), (by omega), fun a1 H1 a10 a11 hP1 b1 => ?_⟩
    refine ⟨_, rfl, p, L, ns, _, 4, rfl, hP1, (by decide), (by decide), (by omega), fun a2 H2 a20 a21 hP2 b2 => ?_⟩
    refine ⟨(by show 3 ≤ sizeLine; decide), fun M hM => ?_⟩
    have nM : M ≠ p := hP2.lt_new hM
    refine ⟨_, rfl, p, L, ns, _, 3, rfl, hP2.new hM, (by decide), (by decide), (by omega), fun k3 H3 k30 k31 hP3 b3 => ?_⟩
    obtain ⟨v, e3, hv⟩ := listAt (xs := [V.int a1, V.int a2, V.int 12]) k30 k31
    refine ⟨M, _, _, v, rfl, rfl, SqL.of ((b3 M nM).trans upd_same), e3, ?_⟩
    obtain ⟨many, rfl, m0, m1⟩ : ∃ m : Int, v = V.int m ∧ 0 ≤ m ∧ m ≤ 12 := by
      simp only [List.mem_cons, List.not_mem_nil, or_false] at hv
      rcases hv with rfl | rfl | rfl
      · exact ⟨_, rfl, a10, by omega⟩
      · exact ⟨_, rfl, a20, by omega⟩
      · exact ⟨_, rfl, by decide, by decide⟩
    have k3 : Kp p H H3 := ((b1.kp.trans b2.kp).trans (Kp.new hM)).trans b3.kp
    refine ⟨_, rfl, many, rfl, (by omega), (by omega), fun D hD => ?_⟩
    have nD : D ≠ p := hP3.lt_new hD
    refine lc_range (lo := 0) (n := many.toNat) (fun i H4 => ∃ ys : List Str, ys.length = i ∧ (∀ y ∈ ys, y.length ≤ 60 ∧ okS y) ∧ H4 D = some (.lst (ys.map V.str)) ∧ Pen H4 p L ns (n + 3 + 8 * i) ∧ Kp p H H4) ?_ ?_ ?_
    · exact ⟨[], rfl, fun y hy => (nomatch hy), upd_same, hP3.new hD, k3.trans (Kp.new hD)⟩
    · rintro i H4 hi ⟨ys, hl, h1, hD4, hP4, k4⟩
      refine ⟨rfl, ?_⟩
      refine ⟨_, rfl, p, L, ns, _, rfl, hP4, (by omega), fun z H5 hz zs hP5 k5 => ?_⟩
      have hD5 := k5 _ _ hD4 nD
      refine ⟨(by show 2 ≤ sizeLine; decide), fun M2 hM2 => ?_⟩
      have n2 : D ≠ M2 := ne_of_none hD5 hM2
      have k6 : Kp p H (upd H5 M2 (.lst [V.int 60, V.int 12])) := (k4.trans k5).trans (Kp.new hM2)
      have hP6 := hP5.new (o := .lst [V.int 60, V.int 12]) hM2
      have x6 : (upd H5 M2 (.lst [V.int 60, V.int 12])) M2 = some (.lst [V.int 60, V.int 12]) := upd_same
      have hD6 : (upd H5 M2 (.lst [V.int 60, V.int 12])) D = _ := (upd_ne n2).trans hD5
      revert k6 hP6 x6 hD6
      generalize upd H5 M2 (.lst [V.int 60, V.int 12]) = H6
      intro k6 hP6 x6 hD6
      refine ⟨_, rfl, _, _, rfl, rfl, .inr ⟨decide (3 < many), rfl, ?_⟩⟩
      obtain ⟨m, em, hm⟩ : ∃ m : Nat, atI [V.int 60, V.int 12] (if decide (3 < many) = true then 1 else 0) = some (.int (m : Int)) ∧ m ≤ 60 := by
        cases decide (3 < many) with
        | true => exact ⟨12, rfl, by decide⟩
        | false => exact ⟨60, rfl, by decide⟩
      refine ⟨M2, _, _, _, rfl, rfl, SqL.of x6, em, _, rfl, z, rfl, Nat.le_of_lt (small1000 (by omega)), ?_⟩
      have hP7 : Pen (upd H6 D (.lst (ys.map V.str ++ [V.str (cutS z none (some (m : Int)))]))) p L ns (n + 3 + 8 * i + 8) := hP6.keep (upd_ne nD.symm) (upd_ne (ne_of_none hP3.ls hD))
      refine ⟨_, hD6, ?_, ys ++ [cutS z none (some (m : Int))], ?_, ?_, ?_, hP7.up (by omega), ?_⟩
      · rw [List.length_map, hl]
        exact small1000 (by omega)
      · rw [List.length_append, hl] <;> rfl
      · intro x hx
        rcases List.mem_append.mp hx with hx | hx
        · exact h1 x hx
        · rw [List.mem_singleton.mp hx]
          exact ⟨Nat.le_trans cut_le hm, okS_cut zs⟩
      · rw [upd_same, List.map_append] <;> rfl
      · intro b o e nb
        rw [upd_ne (ne_of_none (k3 b o e nb) hD)]
        exact k6 b o e nb
    · rintro H4 ⟨ys, hl, h1, hD4, hP4, k4⟩
      refine ⟨D, _, rfl, .inl ⟨SqL.of hD4, fun g hg => ?_⟩⟩
      have xg : (upd H4 g (.tup (ys.map V.str))) g = some (.tup (ys.map V.str)) := upd_same
      exact q _ ys _ (.tup (SqT.of xg) (dpAll_strs ys)) ⟨by omega, h1⟩ ((hP4.new hg).up (by omega)) (k4.trans (Kp.new hg))

/-! ### a place drawn -/
def spPlaceL (K : PySem.W.Frag) : Sp := fun vs H Q _ => ∃ (p L : Addr) (ns : List Int) (n : Nat) (nm : Str), vs = [.ref p, .str nm] ∧ Pen H p L ns n ∧ n + 300 < 1000000 ∧ ∀ (v : V) (pl : PlM) (H' : Hp), Dp K H' v pl.d → pl.name = nm → OkPl pl → Pen H' p L ns (n + 150) → Kp p H H' → Q v H'
theorem ok_placeL {f : Addr} {fd : FuncData} (F : FnP K "_law_place" slaw_place f fd) (T : Txt mg) (D_law_draw : Dn P w K mg base 1 "_law_draw" ["pen", "many"] spDraw) (D_law_lines : Dn P w K mg base 3 "_law_lines" ["pen"] (spLinesL K)) (D_law_worth : Dn P w K mg base 2 "_law_worth" ["pen", "trait"] (spWorthL K)) (D_law_traits : Dn P w K mg base 1 "_law_traits" [] spTraits) :
    FnOk P w K mg base CX0 4 f fd ["pen", "name"] (spPlaceL K) := by
  refine okN F sclaw_place (fun vs H Q E h => ?_) (fun cdv A outer s H vs Q E hr h => ?_)
  · obtain ⟨p, L, ns, n, nm, rfl, _⟩ := h
    rfl
  · obtain ⟨p, L, ns, n, nm, rfl, hP, hn, q⟩ := h
    refine ⟨_, (pss_cons (ps_set (i := 2) sclaw_place.nd rfl (Or.inl rfl) (pe_callTy call_tuple_of (by rfl) T.m_tuple (by decide +kernel) (pa_cons (pe_lc (own := [("trait", 3)]) (g := gName 3) (by rfl) sclaw_place.nd (pi_list (pe_dn0 D_law_traits (hr.mono (by decide)) rfl)) (blkOk_by (own := [("trait", 3)]) (N := ["pen", "name", "settings", "trait"]) (sc := defScope slaw_place) (by decide +kernel)) (fun _ _ _ _ _ => (pg_name (i := 3) sclaw_place.nd rfl (Or.inl rfl))) (fun _ _ _ _ _ => (pts_one (pt_cmpR op_eq (pe_dn D_law_draw (hr.mono (by decide)) rfl (pa_cons (pv 0) (pa_cons pe_int pa_nil))) pe_int (nomark _)))) (fun _ _ _ _ _ => (pe_tup (pa_cons (pv 3) (pa_cons (pe_dn D_law_worth (hr.mono (by decide)) rfl (pa_cons (pv 0) (pa_cons (pv 3) pa_nil))) pa_nil))))) pa_nil)))
      (pss_one (ps_ret (pe_tup (pa_cons (pv 1) (pa_cons (pv 2) (pa_cons (pe_ix ix_list (pe_lst (pa_cons pe_non (pa_cons pe_non (pa_cons (pe_dn D_law_lines (hr.mono (by decide)) rfl (pa_cons (pv 0) pa_nil)) pa_nil)))) (pe_dn D_law_draw (hr.mono (by decide)) rfl (pa_cons (pv 0) (pa_cons pe_int pa_nil))) (fun _ _ => rfl)) pa_nil))))))), ?_⟩
    refine ⟨rfl, fun c H1 xc s1 nc => ?_⟩
    have hP1 := hP.keep' s1
    have n_c : c ≠ p := hP.lt_new nc
    refine ⟨c, rfl, ⟨_, SqL.of xc⟩, fun D hD => ?_⟩
    have nD : D ≠ p := hP1.lt_new hD
    have ncD : c ≠ D := ne_of_none xc hD
    refine lc_list (K := K) (a := c) (xs := TRS.map V.str) (fun i H4 => ∃ (ss : List (Str × PyData)) (xs : List V), (ss.map (·.1)).Sublist (TRS.take i) ∧ (∀ s ∈ ss, wOk s.1 s.2 = true) ∧ DpAll K H4 xs (ss.map setD) ∧ H4 D = some (.lst xs) ∧ Pen H4 p L ns (n + 5 * i) ∧ Kp p H H4 ∧ H4 c = some (.lst (TRS.map V.str))) ?_ ?_ ?_ ?_
    · exact ⟨[], [], List.nil_sublist _, fun s hs => (nomatch hs), .nil, upd_same, hP1.new hD, (sameKp s1).trans (Kp.new hD), (upd_ne ncD).trans xc⟩
    · rintro i H4 hi ⟨ss, xs, _, _, _, _, _, _, x4⟩
      exact SqL.of x4
    · rintro i x H4 hx ⟨ss, xs, h1, h2, h3, h4, hP4, k4, x4⟩
      obtain ⟨z, hz, rfl⟩ : ∃ z, TRS[i]? = some z ∧ x = V.str z := by
        rw [List.getElem?_map] at hx
        cases e : TRS[i]? with
        | none =>
          rw [e] at hx
          cases hx
        | some z =>
          rw [e] at hx
          exact ⟨z, rfl, (Option.some.inj hx).symm⟩
      have mz : z ∈ TRS := List.mem_of_getElem? hz
      have hi : i < 6 := (List.getElem?_eq_some_iff.mp hz).1
      refine ⟨rfl, ?_⟩
      refine ⟨_, rfl, p, L, ns, _, 3, rfl, hP4, (by decide), (by decide), (by omega), fun k H5 k0 k1 hP5 b5 => ?_⟩
      have kt5 : KT K H4 H5 := KT.pen hP4 b5.kp
      have h4' : H5 D = some (.lst xs) := (b5 D nD).trans h4
      have x5 : H5 c = _ := (b5 c n_c).trans x4
      have dn5 : noLAll (ss.map setD) = true := noL_all fun d hd => by
        obtain ⟨s, hs, rfl⟩ := List.mem_map.mp hd
        unfold setD
        simp only [noL, noLAll, flat_noL (wOk_flat (h2 s hs)), Bool.and_self]
      refine ⟨rfl, _, rfl, iteB (fun _ => ?_) fun _ => ?_⟩
      · refine ⟨_, rfl, _, rfl, _, rfl, p, L, ns, _, z, rfl, mz, hP5, (by omega), fun v d H6 hd hw hP6 k6 => ?_⟩
        have kt6 : KT K H5 H6 := KT.pen hP5 k6
        have h6 := k6 _ _ h4' nD
        refine ⟨(by show 2 ≤ sizeLine; decide), fun t ht => ?_⟩
        have nt : D ≠ t := ne_of_none h6 ht
        have s7 : Same H6 (upd H6 t (.tup [V.str z, v])) := same_new ht
        have x7 : (upd H6 t (.tup [V.str z, v])) t = some (.tup [V.str z, v]) := upd_same
        have h7 : (upd H6 t (.tup [V.str z, v])) D = some (.lst xs) := (upd_ne nt).trans h6
        have hP7 := hP6.new (o := .tup [V.str z, v]) ht
        have c7 := s7 _ _ (k6 _ _ x5 n_c)
        have k7 : Kp p H (upd H6 t (.tup [V.str z, v])) := ((k4.trans b5.kp).trans k6).trans (sameKp s7)
        have d7 : Dp K (upd H6 t (.tup [V.str z, v])) (.ref t) (setD (z, d)) := .tup (SqT.of x7) (.cons (.str z) (.cons (dpT_keep (KT.same s7) hd (flat_noL (wOk_flat hw))) .nil))
        have a7 : DpAll K (upd H6 t (.tup [V.str z, v])) xs (ss.map setD) := dpTAll_keep ((kt5.trans kt6).trans (KT.same s7)) h3 dn5
        revert x7 h7 hP7 c7 k7 d7 a7
        generalize upd H6 t (.tup [V.str z, v]) = H7
        intro x7 h7 hP7 c7 k7 d7 a7
        have n8 : noL (setD (z, d)) = true := by
          unfold setD
          simp only [noL, noLAll, flat_noL (wOk_flat hw), Bool.and_self]
        have hP8 : Pen (upd H7 D (.lst (xs ++ [V.ref t]))) p L ns (n + 5 * i + 1 + 4) := hP7.keep (upd_ne nD.symm) (upd_ne (ne_of_none hP1.ls hD))
        · refine ⟨xs, h7, ?_, ss ++ [(z, d)], xs ++ [.ref t], ?_, ?_, ?_, upd_same, hP8.up (by omega), ?_, ?_⟩
          · have l1 := dpAll_len a7
            have l2 := h1.length_le
            rw [List.length_map, List.length_take] at l2
            rw [List.length_map] at l1
            exact small1000 (by omega)
          · rw [List.map_append, take_more hz]
            exact h1.append (List.Sublist.refl _)
          · intro s hs
            rcases List.mem_append.mp hs with hs | hs
            · exact h2 s hs
            · rw [List.mem_singleton.mp hs]
              exact hw
          · rw [List.map_append]
            exact dpTAll_keep (KT.put h7) (dpAll_app a7 (.cons d7 .nil)) (by
              refine noL_all fun e he => ?_
              rcases List.mem_append.mp he with he | he
              · obtain ⟨s, hs, rfl⟩ := List.mem_map.mp he
                unfold setD
                simp only [noL, noLAll, flat_noL (wOk_flat (h2 s hs)), Bool.and_self]
              · rw [List.mem_singleton.mp he]
                exact n8)
          · intro b o e nb
            rw [upd_ne (ne_of_none (s1 b o e) hD)]
            exact k7 b o e nb
          · exact (upd_ne ncD).trans c7
      · refine ⟨ss, xs, ?_, h2, dpTAll_keep kt5 h3 dn5, h4', hP5.up (by omega), k4.trans b5.kp, x5⟩
        rw [take_more hz]
        exact h1.trans (List.sublist_append_left _ _)
    · rintro H4 ⟨ss, xs, h1, h2, h3, h4, hP4, k4, x4⟩
      have hP4 : Pen H4 p L ns (n + 30) := hP4.up (by show n + 5 * 6 ≤ _; omega)
      have dn4 : noLAll (ss.map setD) = true := noL_all fun d hd => by
        obtain ⟨s, hs, rfl⟩ := List.mem_map.mp hd
        unfold setD
        simp only [noL, noLAll, flat_noL (wOk_flat (h2 s hs)), Bool.and_self]
      have sub : (ss.map (·.1)).Sublist TRS := h1.trans (List.take_sublist _ _)
      have okp : ∀ t, (∀ ls, t = some ls → goodL ls) → OkPl ⟨nm, ss, t⟩ := fun t ht => ⟨fun s hs => ⟨sub.subset (List.mem_map_of_mem hs), h2 s hs⟩, sub.nodup (by decide +kernel), ht⟩
      refine ⟨D, _, rfl, .inl ⟨SqL.of h4, fun g hg => ?_⟩⟩
      have s5 : Same H4 (upd H4 g (.tup xs)) := same_new hg
      have g5 : Dp K (upd H4 g (.tup xs)) (.ref g) (.tuple (ss.map setD)) := .tup (SqT.of upd_same) (dpTAll_keep (KT.same s5) h3 dn4)
      have hP5 := hP4.new (o := .tup xs) hg
      have k5 : Kp p H (upd H4 g (.tup xs)) := k4.trans (sameKp s5)
      revert g5 hP5 k5
      generalize upd H4 g (.tup xs) = H5
      intro g5 hP5 k5
      refine ⟨_, rfl, _, rfl, _, rfl, p, L, ns, _, rfl, hP5, (by omega), fun v ls H6 hd hl hP6 k6 => ?_⟩
      have g6 := dpT_keep (KT.pen hP5 k6) g5 (by simp only [noL, dn4])
      refine ⟨(by show 3 ≤ sizeLine; decide), fun M hM => ?_⟩
      have nM : M ≠ p := hP6.lt_new hM
      refine ⟨_, rfl, p, L, ns, _, 3, rfl, hP6.new hM, (by decide), (by decide), (by omega), fun k7 H7 k70 k71 hP7 b7 => ?_⟩
      obtain ⟨u, e7, hu⟩ := listAt (xs := [V.non, V.non, v]) k70 k71
      refine ⟨M, _, _, u, rfl, rfl, SqL.of ((b7 M nM).trans upd_same), e7, (by show 3 ≤ sizeLine; decide), fun t ht => ?_⟩
      have kt7 : KT K H6 H7 := (KT.same (same_new (o := .lst [V.non, V.non, v]) hM)).trans (KT.pen (hP6.new hM) b7.kp)
      have kt8 : KT K H6 (upd H7 t (.tup [V.str nm, V.ref g, u])) := kt7.trans (KT.same (same_new ht))
      have g8 := dpT_keep kt8 g6 (by simp only [noL, dn4])
      have hls : noL (.tuple (ls.map .str)) = true := by
        simp only [noL]
        refine noL_all fun d hd => ?_
        obtain ⟨z, _, rfl⟩ := List.mem_map.mp hd
        simp only [noL]
      have v8 := dpT_keep kt8 hd hls
      have xt : (upd H7 t (.tup [V.str nm, V.ref g, u])) t = some (.tup [V.str nm, V.ref g, u]) := upd_same
      have hP8 : Pen (upd H7 t (.tup [V.str nm, V.ref g, u])) p L ns (n + 150) := (hP7.new ht).up (by omega)
      have k8 : Kp p H (upd H7 t (.tup [V.str nm, V.ref g, u])) := (((k5.trans k6).trans (Kp.new hM)).trans b7.kp).trans (Kp.new ht)
      have fin : ∀ o : Option (List Str), Dp K (upd H7 t (.tup [V.str nm, V.ref g, u])) u (match o with
        | none => .none
        | some l => .tuple (l.map .str)) → (∀ ls, o = some ls → goodL ls) → Q (.ref t) (upd H7 t (.tup [V.str nm, V.ref g, u])) := fun o hu ho =>
        q _ ⟨nm, ss, o⟩ _ (.tup (SqT.of xt) (.cons (.str nm) (.cons g8 (.cons hu .nil)))) rfl (okp o ho) hP8 k8
      simp only [List.mem_cons, List.not_mem_nil, or_false] at hu
      rcases hu with rfl | rfl | rfl
      · exact fin none .non fun _ e => nomatch e
      · exact fin none .non fun _ e => nomatch e
      · exact fin (some ls) v8 fun l e => by
          cases e
          exact hl

/-! ### names drawn -/
def spNames : Sp := fun vs H Q _ => ∃ (p L : Addr) (ns : List Int) (n many : Nat), vs = [.ref p, .int many] ∧ many ≤ 40 ∧ Pen H p L ns n ∧ n + 100 < 1000000 ∧ ∀ (c : Addr) (zs : List Str) (H' : Hp), H' c = some (.lst (zs.map V.str)) → zs.length = many → zs.Nodup → (∀ z ∈ zs, nameB z = true) → c ≠ p → H c = none → Pen H' p L ns (n + many + 6) → Kp p H H' → Q (.ref c) H'
theorem ok_names {f : Addr} {fd : FuncData} (F : FnP K "_law_names" slaw_names f fd) (T : Txt mg) (D_law_draw : Dn P w K mg base 1 "_law_draw" ["pen", "many"] spDraw) : FnOk P w K mg base CX0 2 f fd ["pen", "many"] spNames := by
  refine okN F sclaw_names (fun vs H Q E h => ?_) (fun cdv A outer s H vs Q E hr h => ?_)
  · obtain ⟨p, L, ns, n, many, rfl, _⟩ := h
    rfl
  · obtain ⟨p, L, ns, n, many, rfl, hm, hP, hn, q⟩ := h
    refine ⟨_, (pss_cons (ps_par (i := 2) (j := 3) (by rfl) sclaw_names.nd rfl rfl (by decide) rfl rfl (pa_cons pe_str (pa_cons (pe_lst pa_nil) pa_nil)) (by rfl))
      (pss_cons (ps_par (i := 4) (j := 5) (by rfl) sclaw_names.nd rfl rfl (by decide) rfl rfl (pa_cons (pe_op op_add (pe_ix ix_list (pe_lst (pa_cons pe_int (pa_cons pe_int (pa_cons pe_int (pa_cons pe_int (pa_cons pe_int (pa_cons pe_int (pa_cons pe_int (pa_cons pe_int pa_nil))))))))) (pe_dn D_law_draw (hr.mono (by decide)) rfl (pa_cons (pv 0) (pa_cons pe_int pa_nil))) (fun _ _ => rfl)) (pe_op op_mul pe_int (pe_dn D_law_draw (hr.mono (by decide)) rfl (pa_cons (pv 0) (pa_cons pe_int pa_nil))))) (pa_cons (pe_dn D_law_draw (hr.mono (by decide)) rfl (pa_cons (pv 0) (pa_cons pe_int pa_nil))) pa_nil)) (by rfl))
      (pss_cons (ps_for PassesOwn.never rfl (pi_range1 rfl T.m_range (pa_cons (pv 1) pa_nil)) (pg_name (i := 6) sclaw_names.nd rfl (Or.inl rfl)) (pss_cons (ps_set (i := 7) sclaw_names.nd rfl (Or.inl rfl) (pe_ix ix_list (pe_lst (pa_cons pe_str (pa_cons pe_str (pa_cons pe_str (pa_cons pe_str (pa_cons pe_str (pa_cons pe_str (pa_cons pe_str pa_nil)))))))) (pe_dn D_law_draw (hr.mono (by decide)) rfl (pa_cons (pv 0) (pa_cons pe_int pa_nil))) (fun _ _ => rfl)))
      (pss_cons (ps_expr (pe_bm PySem.F.plainAttrs_list PySem.F.slot_list_append PySem.F.type_list_append mt_append (pv 3) (pa_cons (pe_op op_add_str (pe_op op_add_str (pv 7) (pe_ix ix_str (pv 2) (pe_op op_fdiv (pv 5) pe_int) (fun _ _ => rfl))) (pe_ix ix_str (pv 2) (pe_op op_mod (pv 5) pe_int) (fun _ _ => rfl))) pa_nil)))
      (pss_one (ps_set (i := 5) sclaw_names.nd rfl (Or.inl rfl) (pe_op op_mod (pe_op op_add (pv 5) (pv 4)) pe_int))))))
      (pss_cons (ps_if (PW.pt (pw_and (pt_cmpR op_gt (pv 1) pe_int (nomark _)) (pw_and1 (pt_cmpR op_eq (pe_dn D_law_draw (hr.mono (by decide)) rfl (pa_cons (pv 0) (pa_cons pe_int pa_nil))) pe_int (nomark _))))) (pss_one (ps_asg (pe_ix ix_str (pv 2) (pe_dn D_law_draw (hr.mono (by decide)) rfl (pa_cons (pv 0) (pa_cons pe_int pa_nil))) (fun _ _ => rfl)) (pg_sub (pv 3) (pe_dn D_law_draw (hr.mono (by decide)) rfl (pa_cons (pv 0) (pa_cons (pv 1) pa_nil))) set_list))) pss_nil)
      (pss_one (ps_ret (pv 3))))))), ?_⟩
    refine ⟨(by show 0 ≤ sizeLine; decide), fun c hc => ⟨_, _, rfl, ?_⟩⟩
    have n_c : c ≠ p := hP.lt_new hc
    have x0 : (upd H c (.lst [])) c = some (.lst []) := upd_same
    have hP0 := hP.new (o := .lst []) hc
    have k0 : Kp p H (upd H c (.lst [])) := Kp.new hc
    revert x0 hP0 k0
    generalize upd H c (.lst []) = H0
    intro x0 hP0 k0
    refine ⟨(by show 8 ≤ sizeLine; decide), fun M hM => ?_⟩
    have nM : M ≠ p := hP0.lt_new hM
    have ncM : c ≠ M := ne_of_none x0 hM
    refine ⟨_, rfl, p, L, ns, n, 8, rfl, hP0.new hM, (by decide), (by decide), (by omega), fun k1 H1 k10 k11 hP1 b1 => ?_⟩
    obtain ⟨v, e1, hv⟩ := listAt (xs := [V.int 1, V.int 3, V.int 5, V.int 7, V.int 9, V.int 11, V.int 15, V.int 17]) k10 k11
    obtain ⟨a, rfl, ha⟩ : ∃ a : Nat, v = .int (a : Int) ∧ a ∈ STP := by
      simp only [List.mem_cons, List.not_mem_nil, or_false] at hv
      rcases hv with rfl | rfl | rfl | rfl | rfl | rfl | rfl | rfl <;> exact ⟨_, rfl, by decide⟩
    have a17 : a ≤ 17 := by
      simp only [STP, List.mem_cons, List.not_mem_nil, or_false] at ha
      omega
    refine ⟨M, _, _, _, rfl, rfl, SqL.of ((b1 M nM).trans upd_same), e1, ?_⟩
    refine ⟨_, rfl, p, L, ns, _, 13, rfl, hP1, (by decide), (by decide), (by omega), fun k2 H2 k20 k21 hP2 b2 => ?_⟩
    obtain ⟨b, rfl⟩ : ∃ b : Nat, k2 = (b : Int) := ⟨_, (Int.toNat_of_nonneg k20).symm⟩
    refine ⟨_, _, rfl, rfl, .inl ⟨by omega, by omega⟩, _, _, rfl, rfl, ?_⟩
    refine ⟨_, rfl, p, L, ns, _, 676, rfl, hP2, (by decide), (by decide), (by omega), fun k3 H3 k30 k31 hP3 b3 => ?_⟩
    obtain ⟨c0, rfl⟩ : ∃ c0 : Nat, k3 = (c0 : Int) := ⟨_, (Int.toNat_of_nonneg k30).symm⟩
    refine ⟨_, _, rfl, ?_⟩
    have x3 : H3 c = some (.lst []) := (b3 c n_c).trans ((b2 c n_c).trans ((b1 c n_c).trans ((upd_ne ncM).trans x0)))
    have k3' : Kp p H H3 := (((k0.trans (Kp.new hM)).trans b1.kp).trans b2.kp).trans b3.kp
    refine ⟨_, rfl, (many : Int), rfl, (by omega), (by omega), ?_⟩
    refine for_range (lo := 0) (n := (many : Int).toNat) (fun i σ H4 => ∃ (v6 v7 : Option V) (zs : List Str), σ = [some (.ref p), some (.int (many : Int)), some (.str LETS), some (.ref c), some (.int ((a : Int) + 26 * (b : Int))), some (.int ((nth c0 (a + 26 * b) i : Nat) : Int)), v6, v7] ∧
      H4 c = some (.lst (zs.map V.str)) ∧ zs.length = i ∧ zs.map code2 = (List.range i).map (nth c0 (a + 26 * b)) ∧ (∀ z ∈ zs, nameB z = true ∧ 2 ≤ z.length) ∧ Pen H4 p L ns (n + 3 + i) ∧ Kp p H H4) ?_ ?_ ?_
    · refine ⟨none, none, [], ?_, x3, rfl, rfl, fun z hz => (nomatch hz), hP3, k3'⟩
      have e0 : nth c0 (a + 26 * b) 0 = c0 := by
        unfold nth
        rw [Nat.zero_mul, Nat.add_zero]
        exact Nat.mod_eq_of_lt (by omega)
      rw [e0] <;> rfl
    · rintro i σ H4 hi ⟨v6, v7, zs, rfl, x4, hl, hc2, hz, hP4, k4⟩
      have hcode : nth c0 (a + 26 * b) i < 676 := Nat.mod_lt _ (by decide)
      have hnext : nth c0 (a + 26 * b) (i + 1) = (nth c0 (a + 26 * b) i + (a + 26 * b)) % 676 := by
        unfold nth
        rw [Nat.succ_mul]
        omega
      generalize hm' : nth c0 (a + 26 * b) i = m at hcode hnext
      refine ⟨(by show 7 ≤ sizeLine; decide), fun B hB => ?_⟩
      have nB : B ≠ p := hP4.lt_new hB
      have ncB : c ≠ B := ne_of_none x4 hB
      refine ⟨_, rfl, p, L, ns, _, 7, rfl, hP4.new hB, (by decide), (by decide), (by omega), fun k5 H5 k50 k51 hP5 b5 => ?_⟩
      obtain ⟨v, e5, hv⟩ := listAt (xs := BEG.map V.str) k50 k51
      obtain ⟨y, my, rfl⟩ := List.mem_map.mp hv
      refine ⟨B, _, _, _, rfl, rfl, SqL.of ((b5 B nB).trans upd_same), e5, ?_⟩
      have x5 : H5 c = some (.lst (zs.map V.str)) := (b5 c n_c).trans ((upd_ne ncB).trans x4)
      have k5 : Kp p H H5 := (k4.trans (Kp.new hB)).trans b5.kp
      have yl : y.length ≤ 6 := by
        simp only [BEG, List.mem_cons, List.not_mem_nil, or_false] at my
        rcases my with rfl | rfl | rfl | rfl | rfl | rfl | rfl <;> decide +kernel
      have q1 : m / 26 < 26 := by omega
      have q2 : m % 26 < 26 := by omega
      refine ⟨_, rfl, .inl ⟨rfl, _, SqL.of x5⟩, _, rfl, _, rfl, _, rfl, _, _, rfl, rfl, ⟨by decide, by decide⟩, ?_⟩
      refine ⟨LETS, _, 97 + m / 26, rfl, rfl, by decide +kernel, at_any (j := m / 26) (by omega) (let_at ⟨m / 26, q1⟩), ?_⟩
      refine ⟨_, _, rfl, rfl, (by rw [len_one, sizeLine_eq]; omega), _, rfl, _, rfl, _, _, rfl, rfl, (by show (0 : Int) < 26; decide), ?_⟩
      refine ⟨LETS, _, 97 + m % 26, rfl, rfl, by decide +kernel, at_any (j := m % 26) (by omega) (let_at ⟨m % 26, q2⟩), ?_⟩
      refine ⟨_, _, rfl, rfl, (by rw [len_add, len_one, len_one, sizeLine_eq]; omega), c, _, _, rfl, rfl, x5, ?_, ?_⟩
      · rw [List.length_map, hl]
        exact small1000 (by omega)
      have hP6 : Pen (upd H5 c (.lst (zs.map V.str ++ [V.str ((y ++ ⟨#[97 + m / 26]⟩) ++ ⟨#[97 + m % 26]⟩)]))) p L ns (n + 3 + i + 1) := hP5.keep (upd_ne n_c.symm) (upd_ne (ne_of_none hP.ls hc))
      refine ⟨_, rfl, _, rfl, _, _, rfl, rfl, _, _, rfl, rfl, (by show (0 : Int) < 676; decide), ?_⟩
      refine ⟨some (.int (0 + (i : Int))), some (.str y), zs ++ [(y ++ ⟨#[97 + m / 26]⟩) ++ ⟨#[97 + m % 26]⟩], ?_, ?_, ?_, ?_, ?_, hP6.up (by omega), ?_⟩
      · rw [hnext]
        have e9 : (((m : Nat) : Int) + ((a : Int) + 26 * (b : Int))) % 676 = (((m + (a + 26 * b)) % 676 : Nat) : Int) := by omega
        rw [← e9] <;> rfl
      · rw [upd_same, List.map_append] <;> rfl
      · rw [List.length_append, hl] <;> rfl
      · rw [List.map_append, hc2, List.range_succ, List.map_append]
        show _ ++ [code2 _] = _ ++ [nth c0 (a + 26 * b) i]
        rw [code2_of y hcode, hm']
      · intro z mz
        rcases List.mem_append.mp mz with mz | mz
        · exact hz z mz
        · rw [List.mem_singleton.mp mz]
          refine ⟨name_of my (let_is ⟨m / 26, q1⟩) (let_is ⟨m % 26, q2⟩), ?_⟩
          rw [len_add, len_add, len_one, len_one]
          omega
      · intro b' o e nb
        rw [upd_ne (ne_of_none e hc)]
        exact k5 b' o e nb
    · rintro σ H4 ⟨v6, v7, zs, rfl, x4, hl, hc2, hz, hP4, k4⟩
      have hl : zs.length = many := by omega
      have hP4 : Pen H4 p L ns (n + 3 + many) := hP4.up (by omega)
      have nd : zs.Nodup := nodup_of_map (f := code2) (by rw [hc2]; exact nth_nodup ha (by omega) (by omega))
      have nb : ∀ z ∈ zs, nameB z = true := fun z mz => (hz z mz).1
      have plain : ∀ H5, H5 c = some (.lst (zs.map V.str)) → Pen H5 p L ns (n + many + 6) → Kp p H H5 → Q (.ref c) H5 := fun H5 x5 hP5 k5 => q c zs H5 x5 hl nd nb n_c hc hP5 k5
      refine ⟨_, rfl, _, _, rfl, rfl, _, rfl, iteB (fun h1 => ?_) fun _ => iteF ?_⟩
      · have mpos : 0 < many := by
          have := of_decide_eq_true h1
          omega
        refine ⟨_, rfl, p, L, ns, _, 6, rfl, hP4, (by decide), (by decide), (by omega), fun k5 H5 k50 k51 hP5 b5 => ?_⟩
        have x5 := (b5 c n_c).trans x4
        have kk5 := k4.trans b5.kp
        refine ⟨rfl, _, rfl, iteB (fun _ => ?_) fun _ => ?_⟩
        · refine ⟨_, rfl, _, rfl, p, L, ns, _, 26, rfl, hP5, (by decide), (by decide), (by omega), fun k6 H6 k60 k61 hP6 b6 => ?_⟩
          obtain ⟨m6, rfl⟩ : ∃ m6 : Nat, k6 = (m6 : Int) := ⟨_, (Int.toNat_of_nonneg k60).symm⟩
          have h26 : m6 < 26 := by omega
          refine ⟨LETS, _, 97 + m6, rfl, rfl, by decide +kernel, at_any (j := m6) rfl (let_at ⟨m6, h26⟩), ?_⟩
          refine ⟨_, rfl, _, rfl, _, rfl, p, L, ns, _, (many : Int), rfl, hP6, (by omega), (by omega), (by omega), fun k7 H7 k70 k71 hP7 b7 => ?_⟩
          obtain ⟨j, rfl⟩ : ∃ j : Nat, k7 = (j : Int) := ⟨_, (Int.toNat_of_nonneg k70).symm⟩
          have hj : j < many := by omega
          have x7 : H7 c = some (.lst (zs.map V.str)) := (b7 c n_c).trans ((b6 c n_c).trans x5)
          have k7 : Kp p H H7 := (kk5.trans b6.kp).trans b7.kp
          refine ⟨c, _, _, j, rfl, rfl, x7, ixN_at (by rw [List.length_map, hl]; exact hj), ?_⟩
          have hP8 : Pen (upd H7 c (.lst ((zs.map V.str).set j (V.str ⟨#[97 + m6]⟩)))) p L ns (n + many + 6) := (hP7.keep (upd_ne n_c.symm) (upd_ne (ne_of_none hP.ls hc))).up (by omega)
          refine ⟨_, rfl, q c (zs.set j ⟨#[97 + m6]⟩) _ ?_ (by rw [List.length_set]; exact hl) (nodup_set nd fun mz => ?_) (fun z mz => ?_) n_c hc hP8 fun b' o e nb' => ?_⟩
          · rw [upd_same, List.map_set]
          · have := (hz _ mz).2
            rw [len_one] at this
            omega
          · rcases List.mem_or_eq_of_mem_set mz with mz | e
            · exact nb z mz
            · rw [e]
              exact one_of (let_is ⟨m6, h26⟩)
          · rw [upd_ne (ne_of_none e hc)]
            exact k7 b' o e nb'
        · exact ⟨_, rfl, plain H5 x5 (hP5.up (by omega)) kk5⟩
      · exact ⟨_, rfl, plain H4 x4 (hP4.up (by omega)) k4⟩

/-! ### masters drawn -/
def spMasters (K : PySem.W.Frag) : Sp := fun vs H Q _ => ∃ (p L pool : Addr) (ns : List Int) (n most : Nat) (ps : List Str), vs = [.ref p, .int most, .ref pool] ∧ 0 < most ∧ most ≤ 6 ∧ Pen H p L ns n ∧ n + 10000 < 1000000 ∧ H pool = some (.lst (ps.map V.str)) ∧ pool ≠ p ∧ ps.Nodup ∧ (∀ z ∈ ps, nameB z = true) ∧ ps.length ≤ 8 ∧
  ∀ (v : V) (ms : List MaM) (H' : Hp), Dp K H' v (.tuple (ms.map MaM.d)) → OkMs ms → Pen H' p L ns (n + 9000) → Kp p H H' → Q v H'
theorem ok_masters {f : Addr} {fd : FuncData} (F : FnP K "_law_masters" slaw_masters f fd) (T : Txt mg) (D_law_draw : Dn P w K mg base 1 "_law_draw" ["pen", "many"] spDraw) (D_law_names : Dn P w K mg base 2 "_law_names" ["pen", "many"] spNames) (D_law_place : Dn P w K mg base 4 "_law_place" ["pen", "name"] (spPlaceL K)) :
    FnOk P w K mg base CX0 5 f fd ["pen", "most", "pool"] (spMasters K) := by
  refine okN F sclaw_masters (fun vs H Q E h => ?_) (fun cdv A outer s H vs Q E hr h => ?_)
  · obtain ⟨p, L, pool, ns, n, most, ps, rfl, _⟩ := h
    rfl
  · obtain ⟨p, L, pool, ns, n, most, ps, rfl, hm0, hm, hP, hn, xp, np, pn, pnm, pl8, q⟩ := h
    refine ⟨_, (pss_cons (ps_set (i := 3) sclaw_masters.nd rfl (Or.inl rfl) (pe_dn D_law_names (hr.mono (by decide)) rfl (pa_cons (pv 0) (pa_cons (pe_op op_add pe_int (pe_dn D_law_draw (hr.mono (by decide)) rfl (pa_cons (pv 0) (pa_cons (pv 1) pa_nil)))) pa_nil))))
      (pss_cons (ps_set (i := 4) sclaw_masters.nd rfl (Or.inl rfl) (pe_lst pa_nil))
      (pss_cons (ps_for PassesOwn.never rfl (pi_range1 rfl T.m_range (pa_cons (pe_callB call_len_seq (by rfl) T.m_len (by decide +kernel) (pa_cons (pv 3) pa_nil)) pa_nil)) (pg_name (i := 5) sclaw_masters.nd rfl (Or.inl rfl)) (pss_cons (ps_set (i := 6) sclaw_masters.nd rfl (Or.inl rfl) pe_non)
      (pss_cons (ps_if (PW.pt (pw_and (pt_cmpR op_gt (pv 5) pe_int (nomark _)) (pw_and1 (pt_cmpR op_gt (pe_dn D_law_draw (hr.mono (by decide)) rfl (pa_cons (pv 0) (pa_cons pe_int pa_nil))) pe_int (nomark _))))) (pss_one (ps_set (i := 6) sclaw_masters.nd rfl (Or.inl rfl) (pe_ix ix_list (pv 3) (pe_ix ix_list (pe_lst (pa_cons (pe_op op_sub (pv 5) pe_int) (pa_cons (pe_dn D_law_draw (hr.mono (by decide)) rfl (pa_cons (pv 0) (pa_cons (pv 5) pa_nil))) pa_nil))) (pe_dn D_law_draw (hr.mono (by decide)) rfl (pa_cons (pv 0) (pa_cons pe_int pa_nil))) (fun _ _ => rfl)) (fun _ _ => rfl)))) pss_nil)
      (pss_cons (ps_set (i := 7) sclaw_masters.nd rfl (Or.inl rfl) (pe_lst pa_nil))
      (pss_cons (ps_for PassesOwn.never rfl (pi_list (pv 2)) (pg_name (i := 8) sclaw_masters.nd rfl (Or.inl rfl)) (pss_one (ps_if (PW.pt (pw_and (pt_cmpR op_eq (pe_dn D_law_draw (hr.mono (by decide)) rfl (pa_cons (pv 0) (pa_cons pe_int pa_nil))) pe_int (nomark _)) (pw_and1 (pt_cmpR op_lt (pe_callB call_len_seq (by rfl) T.m_len (by decide +kernel) (pa_cons (pv 7) pa_nil)) pe_int (nomark _))))) (pss_one (ps_expr (pe_bm PySem.F.plainAttrs_list PySem.F.slot_list_insert PySem.F.type_list_insert mt_insert (pv 7) (pa_cons (pe_dn D_law_draw (hr.mono (by decide)) rfl (pa_cons (pv 0) (pa_cons (pe_op op_add (pe_callB call_len_seq (by rfl) T.m_len (by decide +kernel) (pa_cons (pv 7) pa_nil)) pe_int) pa_nil))) (pa_cons (pe_dn D_law_place (hr.mono (by decide)) rfl (pa_cons (pv 0) (pa_cons (pv 8) pa_nil))) pa_nil))))) pss_nil)))
      (pss_one (ps_expr (pe_bm PySem.F.plainAttrs_list PySem.F.slot_list_insert PySem.F.type_list_insert mt_insert (pv 4) (pa_cons (pe_dn D_law_draw (hr.mono (by decide)) rfl (pa_cons (pv 0) (pa_cons (pe_op op_add (pe_callB call_len_seq (by rfl) T.m_len (by decide +kernel) (pa_cons (pv 4) pa_nil)) pe_int) pa_nil))) (pa_cons (pe_tup (pa_cons (pe_ix ix_list (pv 3) (pv 5) (fun _ _ => rfl)) (pa_cons (pv 6) (pa_cons (pe_callTy call_tuple_of (by rfl) T.m_tuple (by decide +kernel) (pa_cons (pv 7) pa_nil)) pa_nil)))) pa_nil))))))))))
      (pss_one (ps_ret (pe_callTy call_tuple_of (by rfl) T.m_tuple (by decide +kernel) (pa_cons (pv 4) pa_nil))))))), ?_⟩
    refine ⟨_, rfl, _, rfl, _, rfl, p, L, ns, n, (most : Int), rfl, hP, (by omega), (by omega), (by omega), fun k1 H1 k10 k11 hP1 b1 => ?_⟩
    obtain ⟨m1, rfl⟩ : ∃ m1 : Nat, k1 = (m1 : Int) := ⟨_, (Int.toNat_of_nonneg k10).symm⟩
    refine ⟨_, _, rfl, rfl, p, L, ns, n + 1, 1 + m1, by
      have e : ((1 : Int) + (m1 : Int)) = ((1 + m1 : Nat) : Int) := by omega
      show [V.ref p, V.int ((1 : Int) + (m1 : Int))] = _
      rw [e], (by omega), hP1, (by omega), fun c zs H2 xc hl nd nb n_c _ hP2 k2 => ?_⟩
    have kk2 : Kp p H H2 := b1.kp.trans k2
    have xp2 := kk2 _ _ xp np
    refine ⟨(by show 0 ≤ sizeLine; decide), fun D hD => ?_⟩
    have nD : D ≠ p := hP2.lt_new hD
    have nLD : L ≠ D := ne_of_none hP2.ls hD
    have ncD : c ≠ D := ne_of_none xc hD
    have npD : pool ≠ D := ne_of_none xp2 hD
    have xD : (upd H2 D (.lst [])) D = some (.lst []) := upd_same
    have xc3 : (upd H2 D (.lst [])) c = _ := (upd_ne ncD).trans xc
    have xp3 : (upd H2 D (.lst [])) pool = _ := (upd_ne npD).trans xp2
    have hP3 := hP2.new (o := .lst []) hD
    have k3 : Kp p H (upd H2 D (.lst [])) := kk2.trans (Kp.new hD)
    have away : ∀ {b : Addr} {o : HO}, H b = some o → b ≠ p → b ≠ D := fun {b o} e nb => ne_of_none (kk2 b o e nb) hD
    revert xD xc3 xp3 hP3 k3
    generalize upd H2 D (.lst []) = H3
    intro xD xc3 xp3 hP3 k3
    refine ⟨_, rfl, c, _, rfl, .inl (SqL.of xc3), ((zs.map V.str).length : Int), rfl, (by omega), (by rw [List.length_map, hl]; omega), ?_⟩
    refine for_range (lo := 0) (n := ((zs.map V.str).length : Int).toNat) (fun i σ H4 => ∃ (v5 v6 v7 v8 : Option V) (ms : List MaM) (xs : List V), σ = [some (.ref p), some (.int (most : Int)), some (.ref pool), some (.ref c), some (.ref D), v5, v6, v7, v8] ∧
      H4 D = some (.lst xs) ∧ DpAll K H4 xs (ms.map MaM.d) ∧ (∀ m ∈ ms, OkMa m) ∧ (ms.map (·.name)).Perm (zs.take i) ∧ Ahead zs i ms ∧ Pen H4 p L ns (n + 20 + 1300 * i) ∧ Kp p H H4 ∧ H4 c = some (.lst (zs.map V.str)) ∧ H4 pool = some (.lst (ps.map V.str))) ?_ ?_ ?_
    · refine ⟨none, none, none, none, [], [], rfl, xD, .nil, fun m hm => (nomatch hm), .refl _, fun m hm => (nomatch hm), hP3.up (by omega), k3, xc3, xp3⟩
    · rintro i σ H4 hi ⟨v5, v6, v7, v8, ms, xs, rfl, xD4, dp4, ok4, pm4, ah4, hP4, k4, xc4, xp4⟩
      have hi : i < zs.length := by
        have e : ((zs.map V.str).length : Int).toNat = zs.length := by rw [List.length_map]; omega
        omega
      have i7 : i ≤ 6 := by omega
      obtain ⟨zi, hzi⟩ : ∃ z, zs[i]? = some z := ⟨_, List.getElem?_eq_getElem hi⟩
      refine seq_via (fun σ' H' => σ' = [some (.ref p), some (.int (most : Int)), some (.ref pool), some (.ref c), some (.ref D), some (.int (0 + (i : Int))), some .non, v7, v8] ∧ H4 = H') (fun nx go => go _ _ ⟨rfl, rfl⟩) ?_
      rintro _ _ ⟨rfl, rfl⟩
      refine seq_via (fun σ' H5 => ∃ (oz : Option Str) (u5 : Int), u5 = (i : Int) ∧ σ' = [some (.ref p), some (.int (most : Int)), some (.ref pool), some (.ref c), some (.ref D), some (.int u5), some (ovD oz), v7, v8] ∧ (∀ z, oz = some z → ∃ j, zs[j]? = some z ∧ j < i) ∧ Pen H5 p L ns (n + 20 + 1300 * i + 3) ∧ Kp p H4 H5) ?_ ?_
      · intro nx go
        refine ⟨_, rfl, _, _, rfl, rfl, _, rfl, iteB (fun h1 => ?_) fun _ => iteF (go _ _ ⟨none, 0 + (i : Int), by omega, rfl, fun z e => (nomatch e), hP4.up (by omega), Kp.refl⟩)⟩
        have ipos : 0 < i := by
          have := of_decide_eq_true h1
          omega
        refine ⟨_, rfl, p, L, ns, _, 4, rfl, hP4, (by decide), (by decide), (by omega), fun a1 H5 a10 a11 hP5 b5 => ?_⟩
        refine ⟨_, _, rfl, rfl, _, rfl, iteB (fun _ => ?_) fun _ => go _ _ ⟨none, 0 + (i : Int), by omega, rfl, fun z e => (nomatch e), hP5.up (by omega), b5.kp⟩⟩
        refine ⟨_, rfl, _, rfl, _, _, rfl, rfl, _, rfl, _, rfl, p, L, ns, _, (0 + (i : Int)), rfl, hP5, (by omega), (by omega), (by omega), fun a2 H6 a20 a21 hP6 b6 => ?_⟩
        refine ⟨(by show 2 ≤ sizeLine; decide), fun M hM => ?_⟩
        have nM : M ≠ p := hP6.lt_new hM
        refine ⟨_, rfl, p, L, ns, _, 2, rfl, hP6.new hM, (by decide), (by decide), (by omega), fun a3 H7 a30 a31 hP7 b7 => ?_⟩
        obtain ⟨v, e7, hv⟩ := listAt (xs := [V.int (0 + (i : Int) - 1), V.int a2]) a30 a31
        refine ⟨M, _, _, v, rfl, rfl, SqL.of ((b7 M nM).trans upd_same), e7, ?_⟩
        obtain ⟨j, rfl, hj⟩ : ∃ j : Nat, v = .int (j : Int) ∧ j < i := by
          simp only [List.mem_cons, List.not_mem_nil, or_false] at hv
          rcases hv with rfl | rfl
          · exact ⟨i - 1, by rw [show (0 + (i : Int) - 1) = ((i - 1 : Nat) : Int) by omega], by omega⟩
          · exact ⟨a2.toNat, by rw [Int.toNat_of_nonneg a20], by omega⟩
        have k7 : Kp p H4 H7 := ((b5.kp.trans b6.kp).trans (Kp.new hM)).trans b7.kp
        obtain ⟨zj, ej⟩ : ∃ z, zs[j]? = some z := ⟨_, List.getElem?_eq_getElem (by omega)⟩
        refine ⟨c, _, _, .str zj, rfl, rfl, SqL.of (k7 _ _ xc4 n_c), at_any (j := j) rfl (by rw [List.getElem?_map, ej] <;> rfl), ?_⟩
        exact go _ _ ⟨some zj, 0 + (i : Int), by omega, rfl, fun z e => by cases e; exact ⟨j, ej, hj⟩, hP7.up (by omega), k7⟩
      · rintro σ' H5 ⟨oz, u5, rfl, rfl, hoz, hP5, k5⟩
        refine ⟨(by show 0 ≤ sizeLine; decide), fun O hO => ?_⟩
        have nO : O ≠ p := hP5.lt_new hO
        have xO : (upd H5 O (.lst [])) O = some (.lst []) := upd_same
        have hP6 := hP5.new (o := .lst []) hO
        have k6 : Kp p H4 (upd H5 O (.lst [])) := k5.trans (Kp.new hO)
        have awO : ∀ {b : Addr} {o : HO}, H4 b = some o → b ≠ p → b ≠ O := fun {b o} e nb => ne_of_none (k5 b o e nb) hO
        have nLO : L ≠ O := ne_of_none hP5.ls hO
        revert xO hP6 k6
        generalize upd H5 O (.lst []) = H6
        intro xO hP6 k6
        refine ⟨_, rfl, pool, rfl, ⟨_, SqL.of (k6 _ _ xp4 np)⟩, for_list (K := K) (a := pool) (xs := ps.map V.str) (fun j σ H7 => ∃ (u8 : Option V) (own : List PlM) (ys : List V), σ = [some (.ref p), some (.int (most : Int)), some (.ref pool), some (.ref c), some (.ref D), some (.int (i : Int)), some (ovD oz), some (.ref O), u8] ∧
          H7 O = some (.lst ys) ∧ DpAll K H7 ys (own.map PlM.d) ∧ (∀ q ∈ own, OkPl q ∧ nameB q.name = true) ∧ (own.map (·.name)).Nodup ∧ (∀ q ∈ own, q.name ∈ ps.take j) ∧ own.length ≤ 8 ∧ Pen H7 p L ns (n + 20 + 1300 * i + 3 + 152 * j) ∧ Kp p H4 H7) ?_ ?_ ?_ ?_⟩
        · exact ⟨_, [], [], rfl, xO, .nil, fun q hq => (nomatch hq), List.nodup_nil, fun q hq => (nomatch hq), by decide, hP6, k6⟩
        · rintro j σ H7 hj ⟨u8, own, ys, _, _, _, _, _, _, _, _, k7⟩
          exact SqL.of (k7 _ _ xp4 np)
        · rintro j x σ H7 hx ⟨u8, own, ys, rfl, x7, dp7, ok7, nd7, in7, l7, hP7, k7⟩
          obtain ⟨z, hz, rfl⟩ : ∃ z, ps[j]? = some z ∧ x = V.str z := by
            rw [List.getElem?_map] at hx
            cases e : ps[j]? with
            | none =>
              rw [e] at hx
              cases hx
            | some z =>
              rw [e] at hx
              exact ⟨z, rfl, (Option.some.inj hx).symm⟩
          have hj : j < ps.length := (List.getElem?_eq_some_iff.mp hz).1
          have in8 : ∀ q ∈ own, q.name ∈ ps.take (j + 1) := fun q hq => by
            rw [take_more hz]
            exact List.mem_append_left _ (in7 q hq)
          have ln : ys.length ≤ 8 := by
            have h := dpAll_len dp7
            rw [List.length_map] at h
            omega
          refine ⟨_, rfl, p, L, ns, _, 3, rfl, hP7, (by decide), (by decide), (by omega), fun a1 H8 a10 a11 hP8 b8 => ?_⟩
          have x8 := (b8 O nO).trans x7
          have dp8 := dpTAll_keep (KT.pen hP7 b8.kp) dp7 (own_noL ok7)
          have k8 := k7.trans b8.kp
          refine ⟨rfl, _, rfl, iteB (fun _ => ?_) fun _ => iteF ⟨_, own, ys, rfl, x8, dp8, ok7, nd7, in8, l7, hP8.up (by omega), k8⟩⟩
          refine ⟨_, rfl, O, _, rfl, .inl (SqL.of x8), _, _, rfl, rfl, _, rfl, iteB (fun h2 => ?_) fun _ => ⟨_, own, ys, rfl, x8, dp8, ok7, nd7, in8, l7, hP8.up (by omega), k8⟩⟩
          have l8 : ys.length < 8 := by
            have := of_decide_eq_true h2
            omega
          refine ⟨_, rfl, .inl ⟨rfl, _, SqL.of x8⟩, _, rfl, _, rfl, O, _, rfl, .inl (SqL.of x8), _, _, rfl, rfl, p, L, ns, _, _, rfl, hP8, (by omega), (by omega), (by omega), fun a2 H9 a20 a21 hP9 b9 => ?_⟩
          refine ⟨_, rfl, _, rfl, p, L, ns, _, z, rfl, hP9, (by omega), fun v pl H10 hd hnm hok hP10 k10 => ?_⟩
          have x10 := k10 _ _ ((b9 O nO).trans x8) nO
          have dp10 := dpTAll_keep ((KT.pen hP8 b9.kp).trans (KT.pen hP9 k10)) dp8 (own_noL ok7)
          refine ⟨O, ys, a2, v, rfl, rfl, x10, small1000 (by omega), a20, (by omega), ?_⟩
          rw [ins_eq]
          have hP11 : Pen (upd H10 O (.lst (ins ys a2.toNat v))) p L ns (n + 20 + 1300 * i + 3 + 152 * (j + 1)) := (hP10.keep (upd_ne nO.symm) (upd_ne nLO)).up (by omega)
          have ok11 : ∀ q ∈ ins own a2.toNat pl, OkPl q ∧ nameB q.name = true := fun q hq => by
            rcases ins_mem.mp hq with rfl | hq
            · exact ⟨hok, by rw [hnm]; exact pnm z (List.mem_of_getElem? hz)⟩
            · exact ok7 q hq
          refine ⟨_, ins own a2.toNat pl, ins ys a2.toNat v, rfl, upd_same, ?_, ok11, ?_, fun q hq => ?_, ?_, hP11, ?_⟩
          · rw [ins_map]
            exact dpTAll_keep (KT.put x10) (ins_dp a2.toNat dp10 hd) (by rw [← ins_map]; exact own_noL ok11)
          · rw [ins_map]
            refine ins_nodup nd7 fun hm => ?_
            obtain ⟨q, hq, e⟩ := List.mem_map.mp hm
            have h1 := in7 q hq
            rw [e, hnm] at h1
            exact not_take pn hz h1
          · rcases ins_mem.mp hq with rfl | hq
            · rw [take_more hz, hnm]
              exact List.mem_append_right _ (List.mem_singleton.mpr rfl)
            · exact in8 q hq
          · have h := dpAll_len dp7
            rw [List.length_map] at h
            rw [ins_len]
            omega
          · intro b o e nb
            rw [upd_ne (awO e nb)]
            exact k10 b o ((k8.trans b9.kp) b o e nb) nb
        · rintro σ H7 ⟨u8, own, ys, rfl, x7, dp7, ok7, nd7, in7, l7, hP7, k7⟩
          have hP7 : Pen H7 p L ns (n + 20 + 1300 * i + 1240) := hP7.up (by rw [List.length_map]; omega)
          have xD7 := k7 _ _ xD4 nD
          have lx : xs.length ≤ 12 := by
            have h := dpAll_len dp4
            have h2 := pm4.length_eq
            rw [List.length_map] at h h2
            rw [List.length_take] at h2
            omega
          refine ⟨_, rfl, .inl ⟨rfl, _, SqL.of xD7⟩, _, rfl, _, rfl, D, _, rfl, .inl (SqL.of xD7), _, _, rfl, rfl, p, L, ns, _, _, rfl, hP7, (by omega), (by omega), (by omega), fun a3 H8 a30 a31 hP8 b8 => ?_⟩
          have k8 := k7.trans b8.kp
          have x8 := (b8 O nO).trans x7
          have dp8 := dpTAll_keep (KT.pen hP7 b8.kp) dp7 (own_noL ok7)
          refine ⟨_, rfl, _, rfl, c, _, _, .str zi, rfl, rfl, SqL.of (k8 _ _ xc4 n_c), at_any (j := i) rfl (by rw [List.getElem?_map, hzi] <;> rfl), _, rfl, _, rfl, O, _, rfl, .inl ⟨SqL.of x8, fun g hg => ?_⟩⟩
          have sg : Same H8 (upd H8 g (.tup ys)) := same_new hg
          have xg : (upd H8 g (.tup ys)) g = some (.tup ys) := upd_same
          have dg : Dp K (upd H8 g (.tup ys)) (.ref g) (.tuple (own.map PlM.d)) := .tup (SqT.of xg) (dpTAll_keep (KT.same sg) dp8 (own_noL ok7))
          have hP9 := hP8.new (o := .tup ys) hg
          have k9 := k8.trans (sameKp (p := p) sg)
          revert dg hP9 k9
          generalize upd H8 g (.tup ys) = H9
          intro dg hP9 k9
          refine ⟨(by show 3 ≤ sizeLine; decide), fun t ht => ?_⟩
          have st : Same H9 (upd H9 t (.tup [V.str zi, ovD oz, V.ref g])) := same_new ht
          have xt : (upd H9 t (.tup [V.str zi, ovD oz, V.ref g])) t = some (.tup [V.str zi, ovD oz, V.ref g]) := upd_same
          have dg2 := dpT_keep (KT.same st) dg (by simp only [noL, own_noL ok7])
          have hP10 := hP9.new (o := .tup [V.str zi, ovD oz, V.ref g]) ht
          have k10 := k9.trans (sameKp (p := p) st)
          revert xt dg2 hP10 k10
          generalize upd H9 t (.tup [V.str zi, ovD oz, V.ref g]) = H10
          intro xt dg2 hP10 k10
          have okm : OkMa ⟨zi, oz, own⟩ := ⟨nb zi (List.mem_of_getElem? hzi), ok7, nd7, l7⟩
          have dt : Dp K H10 (.ref t) (MaM.d ⟨zi, oz, own⟩) := by
            refine .tup (SqT.of xt) (.cons (.str zi) (.cons ?_ (.cons dg2 .nil)))
            cases oz with
            | none => exact .non
            | some z => exact .str z
          have xD10 := k10 _ _ xD4 nD
          have dp10 := dpTAll_keep (KT.pen hP4 k10) dp4 (mas_noL ok4)
          refine ⟨D, xs, a3, _, rfl, rfl, xD10, small1000 (by omega), a30, (by omega), ?_⟩
          rw [ins_eq]
          have ok11 : ∀ m ∈ ins ms a3.toNat ⟨zi, oz, own⟩, OkMa m := fun m hm => by
            rcases ins_mem.mp hm with rfl | hm
            · exact okm
            · exact ok4 m hm
          have hP11 : Pen (upd H10 D (.lst (ins xs a3.toNat (V.ref t)))) p L ns (n + 20 + 1300 * (i + 1)) := (hP10.keep (upd_ne nD.symm) (upd_ne nLD)).up (by omega)
          refine ⟨_, _, _, _, ins ms a3.toNat ⟨zi, oz, own⟩, ins xs a3.toNat (.ref t), rfl, upd_same, ?_, ok11, ?_, fun m hm z ez => ?_, hP11, fun b o e nb' => ?_, ?_, ?_⟩
          · rw [ins_map]
            exact dpTAll_keep (KT.put xD10) (ins_dp a3.toNat dp10 dt) (by rw [← ins_map]; exact mas_noL ok11)
          · rw [ins_map, take_more hzi]
            exact (ins_perm.trans (pm4.cons zi)).trans (List.perm_append_comm (l₁ := [zi]) (l₂ := zs.take i))
          · rcases ins_mem.mp hm with rfl | hm
            · obtain ⟨j, ej, hj⟩ := hoz z ez
              exact ⟨j, i, ej, hzi, hj, by omega⟩
            · obtain ⟨j, k, ej, ek, jk, ki⟩ := ah4 m hm z ez
              exact ⟨j, k, ej, ek, jk, by omega⟩
          · rw [upd_ne (away e nb')]
            exact k10 b o (k4 b o e nb') nb'
          · rw [upd_ne ncD]
            exact k10 _ _ xc4 n_c
          · rw [upd_ne npD]
            exact k10 _ _ xp4 np
    · rintro σ H4 ⟨v5, v6, v7, v8, ms, xs, rfl, xD4, dp4, ok4, pm4, ah4, hP4, k4, _, _⟩
      have eN : ((zs.map V.str).length : Int).toNat = zs.length := by rw [List.length_map]; omega
      rw [eN] at pm4 ah4 hP4
      rw [List.take_length] at pm4
      have okM : OkMs ms := made_ok nd (by omega) (by omega) ok4 pm4 ah4
      refine ⟨_, rfl, D, _, rfl, .inl ⟨SqL.of xD4, fun g hg => ?_⟩⟩
      refine q _ ms _ (.tup (SqT.of upd_same) (dpTAll_keep (KT.same (same_new hg)) dp4 (mas_noL ok4))) okM ((hP4.new hg).up (by omega)) (k4.trans (Kp.new hg))

end
end K7

set_option Elab.async false
set_option linter.all false
set_option maxRecDepth 100000
set_option maxHeartbeats 2000000
namespace K7
open PySem PySem.Spec PyProof.Rows L2 GxR Gx Gd Gn Gm Gc Gk
abbrev slaw_chain : Stmt := top 54
theorem sclaw_chain : FnScope ["masters", "name", "found", "master", "one"] ["masters", "name"] (defScope slaw_chain) := ⟨rfl, rfl, rfl, by decide +kernel, rfl, by decide +kernel, by decide +kernel⟩
abbrev slaw_there : Stmt := top 55
theorem sclaw_there : FnScope ["masters", "name", "found", "master", "one"] ["masters", "name"] (defScope slaw_there) := ⟨rfl, rfl, rfl, by decide +kernel, rfl, by decide +kernel, by decide +kernel⟩
section
variable {P : Program} {w : World} {K : PySem.W.Frag} {mg : Str → Option Value} {base : Heap}
/-! ### the law's own chain -/
theorem ok_chainL {f : Addr} {fd : FuncData} (F : FnP K "_law_chain" slaw_chain f fd) (T : Txt mg) : FnOk P w K mg base CX0 1 f fd ["masters", "name"] (spMsL K (RChn K)) := by
  refine okN F sclaw_chain (fun vs H Q E h => ?_) (fun cdv A outer s H vs Q E hr h => ?_)
  · obtain ⟨v, z, ms, rfl, _⟩ := h
    rfl
  · obtain ⟨v, z, ms, rfl, hv, ok, hz, q⟩ := h
    refine ⟨_, (pss_cons (ps_set (i := 2) sclaw_chain.nd rfl (Or.inl rfl) (pe_lst pa_nil))
      (pss_cons (ps_while PassesOwn.never (pt_cmpR op_notN (pv 1) pe_non (nomark _)) (pss_cons (ps_set (i := 3) sclaw_chain.nd rfl (Or.inl rfl) (pe_ix ix_list (pe_lc (own := [("one", 4)]) (g := gName 4) (by rfl) sclaw_chain.nd (pi_tup (pv 0)) (blkOk_by (own := [("one", 4)]) (N := ["masters", "name", "found", "master", "one"]) (sc := defScope slaw_chain) (by decide +kernel)) (fun _ _ _ _ _ => (pg_name (i := 4) sclaw_chain.nd rfl (Or.inl rfl))) (fun _ _ _ _ _ => (pts_one (pt_cmpR op_eq (pe_ix (r := rIxT K) ix_tup (pv 4) pe_int (fun _ _ => rfl)) (pv 1) (nomark _)))) (fun _ _ _ _ _ => (pv 4))) pe_int (fun _ _ => rfl)))
      (pss_cons (ps_expr (pe_bm PySem.F.plainAttrs_list PySem.F.slot_list_append PySem.F.type_list_append mt_append (pv 2) (pa_cons (pv 3) pa_nil)))
      (pss_one (ps_set (i := 1) sclaw_chain.nd rfl (Or.inr rfl) (pe_ix ix_tup (pv 3) pe_int (fun _ _ => rfl)))))))
      (pss_one (ps_ret (pv 2))))), ?_⟩
    obtain ⟨a, rs, rfl, sa, da⟩ := dp_tup hv
    have nl : noLAll (ms.map MaM.d) = true := mas_noL ok.all
    refine ⟨(by show 0 ≤ sizeLine; decide), fun D hD => ?_⟩
    refine ⟨fun n σ H1 => ∃ (o : Option Str) (v3 v4 : Option V) (l rest : List MaM) (xs : List V), σ = [some (.ref a), some (ovD o), some (.ref D), v3, v4] ∧ Same H H1 ∧ H1 D = some (.lst xs) ∧ DpAll K H1 xs (l.map MaM.d) ∧ chn ms z = l ++ rest ∧
      (match o with
        | none => rest = []
        | some y => (∃ m ∈ ms, m.name = y) ∧ rest = chn ms y) ∧ n = rest.length, ⟨_, some z, none, none, [], chn ms z, [], rfl, same_new hD, upd_same, .nil, rfl, ⟨hz, rfl⟩, rfl⟩, ?_⟩
    rintro n σ H1 ⟨o, v3, v4, l, rest, xs, rfl, s1, x1, d1, e1, ho, rfl⟩
    cases o with
    | none =>
      have er : rest = [] := ho
      rw [er, List.append_nil] at e1
      refine ⟨_, rfl, rfl, _, rfl, iteF ⟨_, rfl, ?_⟩⟩
      exact q D H1 s1 hD ⟨xs, x1, by rw [e1]; exact d1⟩
    | some y =>
      obtain ⟨hy, er⟩ : (∃ m ∈ ms, m.name = y) ∧ rest = chn ms y := ho
      obtain ⟨m, hm⟩ := fnd_of hy
      have es := chn_step ok hm
      rw [← er] at es
      have lr : l.length + rest.length ≤ 20 := by
        have h := chn_len ms z
        rw [e1, List.length_append] at h
        exact h
      refine ⟨_, rfl, rfl, _, rfl, iteT ⟨fun σ' H' => ∃ n', n' < rest.length ∧ ∃ (o : Option Str) (v3 v4 : Option V) (l' rest' : List MaM) (xs : List V), σ' = [some (.ref a), some (ovD o), some (.ref D), v3, v4] ∧ Same H H' ∧ H' D = some (.lst xs) ∧ DpAll K H' xs (l'.map MaM.d) ∧ chn ms z = l' ++ rest' ∧
        (match o with
          | none => rest' = []
          | some y => (∃ m ∈ ms, m.name = y) ∧ rest' = chn ms y) ∧ n' = rest'.length, fun σ' H' h => h, ?_⟩⟩
      have sa1 := sqT_same s1 sa
      refine ⟨_, rfl, a, rfl, ⟨_, sa1⟩, fun D2 hD2 => ?_⟩
      have nD : D ≠ D2 := ne_of_none x1 hD2
      refine lc_tup (K := K) (a := a) (xs := rs) (fun i H3 => Same H H3 ∧ H3 D = some (.lst xs) ∧ KT K H1 H3 ∧ ∃ ys, H3 D2 = some (.lst ys) ∧ DpAll K H3 ys (((ms.take i).filter fun m => decide (m.name = y)).map MaM.d)) ?_ (fun i H3 _ h => sqT_same h.1 sa) ?_ ?_
      · have s2 := same_new (o := .lst []) hD2
        exact ⟨s1.trans s2, s2 _ _ x1, KT.same s2, [], upd_same, .nil⟩
      · rintro i x H3 hi ⟨s3, x3, kt3, ys, y3, dy⟩
        have hi' : i < 1000 := by
          have h1 := (List.getElem?_eq_some_iff.mp hi).1
          have h2 := dpAll_len da
          rw [List.length_map] at h2
          have h3 := ok.few
          omega
        obtain ⟨r, er, hr'⟩ := at_rec da hi
        have hr3 := dpT_keep (KT.same s3) hr' ((ok.all r (List.mem_of_getElem? er)).noL)
        obtain ⟨c, g, ps, rfl, sc, sg, dg⟩ := ma_at hr3
        refine ⟨rfl, ?_⟩
        refine ⟨_, rfl, c, _, 0, .str r.name, rfl, rfl, sc, rfl, _, rfl, rfl, _, rfl, ?_⟩
        have lf : ys.length < 1000 := by
          have h1 := dpAll_len dy
          rw [List.length_map] at h1
          have h2 := List.length_filter_le (fun m : MaM => decide (m.name = y)) (ms.take i)
          rw [List.length_take] at h2
          omega
        have nof : noLAll (((ms.take (i + 1)).filter fun m => decide (m.name = y)).map MaM.d) = true := mas_noL fun m hm => ok.all m (List.mem_of_mem_take (List.mem_filter.mp hm).1)
        refine iteB (fun hb => ?_) fun hb => ?_
        · have hn : r.name = y := V.str.inj (of_decide_eq_true hb)
          refine ⟨_, rfl, ys, y3, small1000 (by omega), fun b o e => ?_, ?_, kt3.trans (KT.put y3), ys ++ [.ref c], upd_same, ?_⟩
          · rw [upd_ne (ne_of_none (s1 _ _ e) hD2)]
            exact s3 _ _ e
          · rw [upd_ne nD]
            exact x3
          · have ef : ((ms.take (i + 1)).filter fun m => decide (m.name = y)) = ((ms.take i).filter fun m => decide (m.name = y)) ++ [r] := by
              rw [take_more er, List.filter_append]
              simp [List.filter, hn]
            rw [ef] at nof ⊢
            rw [List.map_append] at nof ⊢
            exact dpTAll_keep (KT.put y3) (dpAll_app dy (.cons hr3 .nil)) nof
        · have hn : ¬ r.name = y := fun e => of_decide_eq_false hb (by rw [e] <;> rfl)
          refine ⟨s3, x3, kt3, ys, y3, ?_⟩
          have ef : ((ms.take (i + 1)).filter fun m => decide (m.name = y)) = ((ms.take i).filter fun m => decide (m.name = y)) := by
            rw [take_more er, List.filter_append]
            simp [List.filter, hn]
          rw [ef]
          exact dy
      · rintro H3 ⟨s3, x3, kt3, ys, y3, dy⟩
        have hl : rs.length = ms.length := by
          have h2 := dpAll_len da
          rw [List.length_map] at h2
          exact h2
        rw [hl, List.take_length] at dy
        have hh : (ms.filter fun m => decide (m.name = y)).head? = some m := by
          rw [List.head?_filter]
          exact hm
        obtain ⟨tl, etl⟩ : ∃ tl, (ms.filter fun m => decide (m.name = y)) = m :: tl := by
          cases e : (ms.filter fun m => decide (m.name = y)) with
          | nil =>
            rw [e] at hh
            cases hh
          | cons b r =>
            rw [e] at hh
            cases hh
            exact ⟨r, rfl⟩
        rw [etl] at dy
        cases dy with
        | @cons u us _ _ hu tu =>
          obtain ⟨mm, nm⟩ := fnd_some hm
          obtain ⟨c, g, ps, rfl, sc, sg, dg⟩ := ma_at hu
          refine ⟨D2, _, 0, .ref c, rfl, rfl, SqL.of y3, at_any (j := 0) rfl rfl, ?_⟩
          refine ⟨_, rfl, .inl ⟨rfl, _, SqL.of x3⟩, _, rfl, D, xs, _, rfl, rfl, x3, ?_, ?_⟩
          · have h1 := dpAll_len d1
            rw [List.length_map] at h1
            exact small1000 (by omega)
          have kt4 : KT K H3 (upd H3 D (.lst (xs ++ [.ref c]))) := KT.put x3
          refine ⟨_, rfl, c, _, 1, ovD m.over, rfl, rfl, kt4 _ _ sc, rfl, ?_⟩
          have nol : noLAll ((l ++ [m]).map MaM.d) = true := mas_noL fun m' hm' => ok.all m' (by
            rcases List.mem_append.mp hm' with h | h
            · exact chn_mem (z := z) (by rw [e1]; exact List.mem_append_left _ h)
            · rw [List.mem_singleton.mp h]; exact mm)
          have base : DpAll K (upd H3 D (.lst (xs ++ [.ref c]))) (xs ++ [.ref c]) ((l ++ [m]).map MaM.d) := by
            rw [List.map_append] at nol ⊢
            simp only [noLAll_app, Bool.and_eq_true] at nol
            refine dpAll_app (dpTAll_keep (kt3.trans kt4) d1 nol.1) (.cons (dpT_keep kt4 hu (ok.all m mm).noL) .nil)
          have sm : Same H (upd H3 D (.lst (xs ++ [.ref c]))) := fun b o e => by
            rw [upd_ne (ne_of_none e hD)]
            exact s3 _ _ e
          cases eo : m.over with
          | none =>
            simp only [eo] at es
            refine ⟨0, by rw [es]; exact Nat.succ_pos _, none, _, _, l ++ [m], [], xs ++ [.ref c], rfl, sm, upd_same, base, ?_, rfl, rfl⟩
            rw [e1, es, List.append_nil]
          | some y' =>
            simp only [eo] at es
            obtain ⟨f, fl, hf⟩ := ok.over
            refine ⟨(chn ms y').length, by rw [es]; exact Nat.lt_succ_self _, some y', _, _, l ++ [m], chn ms y', xs ++ [.ref c], rfl, sm, upd_same, base, ?_, ⟨(hf m mm y' eo).1, rfl⟩, rfl⟩
            rw [e1, es, List.append_assoc] <;> rfl

/-! ### the law's own places -/
theorem ok_thereL {f : Addr} {fd : FuncData} (F : FnP K "_law_there" slaw_there f fd) (T : Txt mg) (D_law_chain : Dn P w K mg base 1 "_law_chain" ["masters", "name"] (spMsL K (RChn K))) : FnOk P w K mg base CX0 2 f fd ["masters", "name"] (spMsL K RThere) := by
  refine okN F sclaw_there (fun vs H Q E h => ?_) (fun cdv A outer s H vs Q E hr h => ?_)
  · obtain ⟨v, z, ms, rfl, _⟩ := h
    rfl
  · obtain ⟨v, z, ms, rfl, hv, ok, hz, q⟩ := h
    refine ⟨_, (pss_cons (ps_set (i := 2) sclaw_there.nd rfl (Or.inl rfl) (pe_lst pa_nil))
      (pss_cons (ps_for PassesOwn.never rfl (pi_list (pe_revL (pe_dn D_law_chain (hr.mono (by decide)) rfl (pa_cons (pv 0) (pa_cons (pv 1) pa_nil))))) (pg_name (i := 3) sclaw_there.nd rfl (Or.inl rfl)) (pss_one (ps_for PassesOwn.never rfl (pi_tup (pe_ix ix_tup (pv 3) pe_int (fun _ _ => rfl))) (pg_name (i := 4) sclaw_there.nd rfl (Or.inl rfl)) (pss_one (ps_if (pt_cmpR op_notIn_seq (pe_ix ix_tup (pv 4) pe_int (fun _ _ => rfl)) (pv 2) rfl) (pss_one (ps_expr (pe_bm PySem.F.plainAttrs_list PySem.F.slot_list_append PySem.F.type_list_append mt_append (pv 2) (pa_cons (pe_ix ix_tup (pv 4) pe_int (fun _ _ => rfl)) pa_nil)))) pss_nil)))))
      (pss_one (ps_ret (pv 2))))), ?_⟩
    refine ⟨(by show 0 ≤ sizeLine; decide), fun D hD => ?_⟩
    have s0 := same_new (o := .lst []) hD
    refine ⟨_, rfl, _, rfl, v, z, ms, rfl, dp_same s0 hv, ok, hz, fun C H1 s1 hC hc => ?_⟩
    obtain ⟨xs, x1, d1⟩ := hc
    refine ⟨C, xs, rfl, SqL.of x1, fun R hR => ?_⟩
    have s2 := same_new (o := .lst xs.reverse) hR
    have xR : (upd H1 R (.lst xs.reverse)) R = some (.lst xs.reverse) := upd_same
    have xD := s2 _ _ (s1 _ _ upd_same)
    have dR : DpAll K (upd H1 R (.lst xs.reverse)) xs.reverse ((chn ms z).reverse.map MaM.d) := by
      rw [List.map_reverse]
      exact dpAll_rev (dpAll_same s2 d1)
    have sH : Same H (upd H1 R (.lst xs.reverse)) := (s0.trans s1).trans s2
    have nRD : R ≠ D := (ne_of_none (s1 _ _ upd_same) hR).symm
    revert xR xD dR sH
    generalize upd H1 R (.lst xs.reverse) = H2
    intro xR xD dR sH
    have okc : ∀ m ∈ (chn ms z).reverse, OkMa m := fun m hm => ok.all m (chn_mem (List.mem_reverse.mp hm))
    have lc : (chn ms z).reverse.length ≤ 20 := by
      rw [List.length_reverse]
      exact chn_len ms z
    have e0 : there ms z = (plN (chn ms z).reverse).foldl addN [] := rfl
    revert dR okc lc e0
    generalize (chn ms z).reverse = L
    intro dR okc lc e0
    have lxs : xs.reverse.length = L.length := by
      have h := dpAll_len dR
      rw [List.length_map] at h
      exact h
    have l8 : ∀ m ∈ L, m.own.length ≤ 8 := fun m hm => (okc m hm).few
    refine ⟨R, rfl, ⟨_, SqL.of xR⟩, for_list (K := K) (a := R) (xs := xs.reverse) (fun i σ H3 => ∃ (v3 v4 : Option V), σ = [some v, some (.str z), some (.ref D), v3, v4] ∧ Same H H3 ∧ KT K H2 H3 ∧ H3 R = some (.lst xs.reverse) ∧ H3 D = some (.lst (((plN (L.take i)).foldl addN []).map V.str))) ?_ ?_ ?_ ?_⟩
    · exact ⟨none, none, rfl, sH, KT.refl, xR, xD⟩
    · rintro i σ H3 hi ⟨_, _, _, _, _, x3, _⟩
      exact SqL.of x3
    · rintro i x σ H3 hi ⟨v3, v4, rfl, s3, kt3, x3, y3⟩
      obtain ⟨m, em, hm⟩ := at_rec dR hi
      have mm := List.mem_of_getElem? em
      have lt : i < L.length := (List.getElem?_eq_some_iff.mp em).1
      have hm3 := dpT_keep kt3 hm (okc m mm).noL
      obtain ⟨c, g, ps, rfl, sc, sg, dg⟩ := ma_at hm3
      refine ⟨_, rfl, c, _, 2, .ref g, rfl, rfl, sc, rfl, g, rfl, ⟨_, sg⟩, ?_⟩
      have lb : (plN (L.take i)).length ≤ 160 := by
        have h := plN_len (l := L.take i) fun m hm => l8 m (List.mem_of_mem_take hm)
        rw [List.length_take] at h
        omega
      have lm := l8 m mm
      have lps : ps.length = m.own.length := by
        have h := dpAll_len dg
        rw [List.length_map] at h
        exact h
      refine for_tup (K := K) (a := g) (xs := ps) (fun j σ H4 => ∃ v4 : Option V, σ = [some v, some (.str z), some (.ref D), some (.ref c), v4] ∧ Same H H4 ∧ KT K H3 H4 ∧ H4 R = some (.lst xs.reverse) ∧ H4 D = some (.lst ((((m.own.take j).map (·.name)).foldl addN ((plN (L.take i)).foldl addN [])).map V.str))) ?_ ?_ ?_ ?_
      · exact ⟨v4, rfl, s3, KT.refl, x3, y3⟩
      · rintro j σ H4 hj ⟨_, _, _, kt4, _⟩
        exact kt4 _ _ sg
      · rintro j x σ H4 hj ⟨v4, rfl, s4, kt4, x4, y4⟩
        obtain ⟨p, ep, hp⟩ := at_rec dg hj
        have mp := List.mem_of_getElem? ep
        have hp4 := dpT_keep kt4 hp ((okc m mm).own p mp).1.noL
        obtain ⟨c2, g2, ss, u, rfl, sc2, sg2, ds, du⟩ := pl_at hp4
        have et : ((m.own.take (j + 1)).map (·.name)).foldl addN ((plN (L.take i)).foldl addN []) = addN (((m.own.take j).map (·.name)).foldl addN ((plN (L.take i)).foldl addN [])) p.name := by
          rw [take_more ep, List.map_append, List.foldl_append] <;> rfl
        have lf : (((m.own.take j).map (·.name)).foldl addN ((plN (L.take i)).foldl addN [])).length ≤ 200 := by
          have h1 := fold_len (l := (m.own.take j).map (·.name)) (acc := (plN (L.take i)).foldl addN [])
          have h2 := fold_len (l := plN (L.take i)) (acc := [])
          rw [List.length_map, List.length_take] at h1
          have h3 : ([] : List Str).length = 0 := rfl
          omega
        revert et lf y4
        generalize (((m.own.take j).map (·.name)).foldl addN ((plN (L.take i)).foldl addN [])) = acc
        intro y4 et lf
        refine ⟨_, rfl, c2, _, 0, .str p.name, rfl, rfl, sc2, rfl, _, rfl, D, _, rfl, .inl (SqL.of y4), rfl, flat_strs acc, _, rfl, ?_⟩
        rw [inV_strs]
        refine iteNb (fun h => ?_) fun h => ?_
        · have hn : p.name ∉ acc := of_decide_eq_false h
          refine ⟨_, rfl, .inl ⟨rfl, _, SqL.of y4⟩, _, rfl, c2, _, 0, .str p.name, rfl, rfl, sc2, rfl, D, _, _, rfl, rfl, y4, ?_, ?_⟩
          · rw [List.length_map]
            exact small1000 (by omega)
          refine ⟨_, rfl, fun b o e => ?_, kt4.trans (KT.put y4), ?_, ?_⟩
          · rw [upd_ne (ne_of_none e hD)]
            exact s4 _ _ e
          · rw [upd_ne nRD]
            exact x4
          · rw [upd_same, et]
            unfold addN
            rw [if_neg hn, List.map_append] <;> rfl
        · have hn : p.name ∈ acc := of_decide_eq_true h
          refine ⟨_, rfl, s4, kt4, x4, ?_⟩
          rw [et]
          unfold addN
          rw [if_pos hn]
          exact y4
      · rintro σ H4 ⟨v4, rfl, s4, kt4, x4, y4⟩
        rw [lps, List.take_length] at y4
        refine ⟨_, _, rfl, s4, kt3.trans kt4, x4, ?_⟩
        rw [take_more em, plN_app, List.foldl_append]
        exact y4
    · rintro σ H3 ⟨v3, v4, rfl, s3, kt3, x3, y3⟩
      rw [lxs, List.take_length, ← e0] at y3
      exact ⟨_, rfl, q D H3 s3 hD y3⟩

end
end K7

set_option Elab.async false
set_option linter.all false
set_option maxRecDepth 100000
set_option maxHeartbeats 2000000
namespace K7
open PySem PySem.Spec PyProof.Rows L2 GxR Gx Gd Gn Gm Gc Gk
abbrev sis_name : Stmt := top 33
theorem scis_name : FnScope ["thing"] ["thing"] (defScope sis_name) := ⟨rfl, rfl, rfl, by decide +kernel, rfl, by decide +kernel, by decide +kernel⟩
abbrev sis_one_of : Stmt := top 26
theorem scis_one_of : FnScope ["thing", "words"] ["thing", "words"] (defScope sis_one_of) := ⟨rfl, rfl, rfl, by decide +kernel, rfl, by decide +kernel, by decide +kernel⟩
abbrev sis_trait : Stmt := top 34
theorem scis_trait : FnScope ["thing"] ["thing"] (defScope sis_trait) := ⟨rfl, rfl, rfl, by decide +kernel, rfl, by decide +kernel, by decide +kernel⟩
abbrev smaster_of : Stmt := top 36
theorem scmaster_of : FnScope ["masters", "name", "master"] ["masters", "name"] (defScope smaster_of) := ⟨rfl, rfl, rfl, by decide +kernel, rfl, by decide +kernel, by decide +kernel⟩
abbrev smasters_along : Stmt := top 37
theorem scmasters_along : FnScope ["masters", "name", "along"] ["masters", "name"] (defScope smasters_along) := ⟨rfl, rfl, rfl, by decide +kernel, rfl, by decide +kernel, by decide +kernel⟩
abbrev schain_of : Stmt := top 38
theorem scchain_of : FnScope ["masters", "name", "master"] ["masters", "name"] (defScope schain_of) := ⟨rfl, rfl, rfl, by decide +kernel, rfl, by decide +kernel, by decide +kernel⟩
abbrev splaces_of : Stmt := top 39
theorem scplaces_of : FnScope ["masters", "name", "told", "master", "over", "places", "place", "settings", "text"] ["masters", "name"] (defScope splaces_of) := ⟨rfl, rfl, rfl, by decide +kernel, rfl, by decide +kernel, by decide +kernel⟩
abbrev ssaid_of : Stmt := top 40
theorem scsaid_of : FnScope ["masters", "name", "place", "along", "said", "master", "over", "places", "own", "settings", "text"] ["masters", "name", "place"] (defScope ssaid_of) := ⟨rfl, rfl, rfl, by decide +kernel, rfl, by decide +kernel, by decide +kernel⟩
abbrev sworth_said : Stmt := top 41
theorem scworth_said : FnScope ["said", "trait", "master", "settings", "text", "set_trait", "worth"] ["said", "trait"] (defScope sworth_said) := ⟨rfl, rfl, rfl, by decide +kernel, rfl, by decide +kernel, by decide +kernel⟩
abbrev sworth_by : Stmt := top 42
theorem scworth_by : FnScope ["masters", "name", "place", "trait", "said"] ["masters", "name", "place", "trait"] (defScope sworth_by) := ⟨rfl, rfl, rfl, by decide +kernel, rfl, by decide +kernel, by decide +kernel⟩
abbrev stext_by : Stmt := top 43
theorem sctext_by : FnScope ["masters", "name", "place", "master", "settings", "text"] ["masters", "name", "place"] (defScope stext_by) := ⟨rfl, rfl, rfl, by decide +kernel, rfl, by decide +kernel, by decide +kernel⟩
section
variable {P : Program} {w : World} {K : PySem.W.Frag} {mg : Str → Option Value} {base : Heap}
/-! ### is_name -/
def spName (P' : Addr) : Sp := fun vs H Q _ => ∃ v, vs = [v] ∧ Th H v ∧ (∀ z, v = .str z → z.length ≤ sizeLine) ∧ TabG H P' ∧ ∀ H2, Tabbed P' H H2 → Q (.bl (nameV v)) H2
theorem ok_name {fd : FuncData} {P' : Addr} (F : FnP K "is_name" sis_name (He.fAd K ("is_name", none)) fd) (T : Txt mg) (B : TabB base mg (He.codeOf K ("is_name", none)) P') {t1 t2 t3 : Tok}
    (g1 : mg "LETTERS" = some (.str LETS t1)) (g2 : mg "FIGURES" = some (.str FIGS t2)) (g3 : mg "LONGEST_NAME" = some (.int 8 t3)) :
    FnOk P w K mg base CX0 1 (He.fAd K ("is_name", none)) fd ["thing"] (spName P') := by
  refine okCN F scis_name (fun vs H Q E h => ?_) (fun cdv A outer s H vs Q E hc hr h => ?_)
  · obtain ⟨v, rfl, _⟩ := h
    rfl
  · obtain ⟨v, rfl, hT, hz, hG, q⟩ := h
    subst hc
    refine ⟨_, (pss_cons (ps_if (PW.pt (pw_or (pt_not (pt_val (pe_callB call_isi (by rfl) T.m_isinstance (by decide +kernel) (pa_cons (pv 0) (pa_cons (pe_bltn (v := .ty "str") (u := .type "str") rfl T.m_str (by decide +kernel) rfl) pa_nil))))) (pw_or1 (pt_not (pt_chain op_le op_le pe_int (pe_callB call_len_str (by rfl) T.m_len (by decide +kernel) (pa_cons (pv 0) pa_nil)) (pe_glob (v := .int 8) rfl g3 ⟨_, rfl⟩)))))) (pss_one (ps_ret pe_bl)) pss_nil)
      (pss_one (ps_ret (pe_and (pe_cmpR op_in_sign (pe_ix ix_str (pv 0) pe_int (fun _ _ => rfl)) (pe_glob (v := .str LETS) rfl g1 ⟨_, rfl⟩) rfl) (pe_one (pe_allG hr rfl T.m_all B rfl (gs_plain rfl rfl rfl rfl (by decide +kernel)) (pv 0) (elt_or (elt_inG rfl rfl rfl g1) (elt_inG rfl rfl rfl g2)))))))), ?_⟩
    obtain ⟨t, ty, kt⟩ := hT.str_ (K := K)
    refine ⟨_, rfl, v, .ty "str", t, .type "str", isStr v, rfl, .ty "str", ty, kt, _, rfl, ?_⟩
    have same : Tabbed P' H H := ⟨hG, fun _ _ => rfl⟩
    cases hs : isStr v with
    | false =>
      have q1 := q H same
      rw [nameV_no hs] at q1
      exact iteT (iteT q1)
    | true =>
      obtain ⟨z, rfl⟩ : ∃ z, v = .str z := by cases v <;> first | exact ⟨_, rfl⟩ | cases hs
      refine iteF ?_
      refine ⟨_, rfl, _, rfl, hz z rfl, _, _, rfl, rfl, _, rfl, ?_⟩
      have nb : nameV (.str z) = (decide (1 ≤ (z.length : Int)) && (decide ((z.length : Int) ≤ 8) && ((match z.cps.toList with
        | [] => false
        | c :: _ => isLet c) && z.cps.toList.all fun c => isLet c || isFig c))) := rfl
      rw [nb] at q
      refine iteB (fun c1 => ?_) fun c1 => ?_
      · obtain ⟨c, r, ec⟩ := head_of (of_decide_eq_true c1)
        rw [c1, ec] at q
        refine ⟨_, _, rfl, rfl, _, rfl, iteNb (fun c2 => ?_) fun c2 => ?_⟩
        · rw [c2] at q
          exact q H same
        · rw [c2] at q
          refine ⟨_, rfl, z, 0, c, rfl, rfl, hz z rfl, at_any (xs := z.cps.toList) (v := c) (j := 0) rfl (by rw [ec]; rfl), c, LETS, rfl, rfl, _, rfl, iteB (fun c3 => ?_) fun c3 => ?_⟩
          · refine ⟨_, rfl, z, rfl, hG, fun H2 h2 => ?_⟩
            have q2 : Q (.bl (isLet c && (c :: r).all fun c => isLet c || isFig c)) H2 := q H2 h2
            rw [show isLet c = true from c3] at q2
            rw [ec]
            exact q2
          · have q2 : Q (.bl (isLet c && (c :: r).all fun c => isLet c || isFig c)) H := q H same
            rw [show isLet c = false from c3] at q2
            exact q2
      · rw [c1] at q
        exact ⟨_, rfl, iteT (q H same)⟩

/-! ### kinds -/
theorem ok_oneof {f : Addr} {fd : FuncData} (F : FnP K "is_one_of" sis_one_of f fd) (T : Txt mg) : FnOk P w K mg base CX0 1 f fd ["thing", "words"] (spOneOf K) := by
  refine okN F scis_one_of (fun vs H Q E h => ?_) (fun cdv A outer s H vs Q E hr h => ?_)
  · obtain ⟨v, a, xs, rfl, _⟩ := h
    rfl
  · obtain ⟨v, a, xs, rfl, hT, ha, hf, q⟩ := h
    refine ⟨_, (pss_one (ps_ret (pe_and (pe_callB call_isi (by rfl) T.m_isinstance (by decide +kernel) (pa_cons (pv 0) (pa_cons (pe_bltn (v := .ty "str") (u := .type "str") rfl T.m_str (by decide +kernel) rfl) pa_nil))) (pe_one (pe_cmpR op_in_seq (pv 0) (pv 1) rfl))))), ?_⟩
    obtain ⟨t, ty, kt⟩ := hT.str_ (K := K)
    refine ⟨_, rfl, v, .ty "str", t, .type "str", isStr v, rfl, .ty "str", ty, kt, _, rfl, ?_⟩
    cases hs : isStr v with
    | false =>
      rw [hs] at q
      exact q
    | true =>
      obtain ⟨z, rfl⟩ : ∃ z, v = .str z := by cases v <;> first | exact ⟨_, rfl⟩ | cases hs
      refine iteT ?_
      exact ⟨_, rfl, _, rfl, _, xs, rfl, .inr ha, rfl, hf, q⟩
theorem ok_trait {f : Addr} {fd : FuncData} (F : FnP K "is_trait" sis_trait f fd) (gT : mg "TRAITS" = some (.ref (He.ga K "TRAITS"))) (tT : ∀ H, SqT K H (He.ga K "TRAITS") TR) (D_is_one_of : Dn P w K mg base 1 "is_one_of" ["thing", "words"] (spOneOf K)) : FnOk P w K mg base CX0 2 f fd ["thing"] spTrait := by
  refine okN F scis_trait (fun vs H Q E h => ?_) (fun cdv A outer s H vs Q E hr h => ?_)
  · obtain ⟨v, rfl, _⟩ := h
    rfl
  · obtain ⟨v, rfl, hT, q⟩ := h
    refine ⟨_, (pss_one (ps_ret (pe_dn D_is_one_of (hr.mono (by decide)) rfl (pa_cons (pv 0) (pa_cons (pe_glob (v := .ref (He.ga K "TRAITS")) rfl gT rfl) pa_nil))))), ?_⟩
    refine ⟨_, rfl, v, _, TR, rfl, hT, tT H, flat_strs TRS, ?_⟩
    cases hs : isStr v with
    | false =>
      rw [traitV_no hs] at q
      exact q
    | true =>
      obtain ⟨z, rfl⟩ : ∃ z, v = .str z := by cases v <;> first | exact ⟨_, rfl⟩ | cases hs
      exact q

/-! ### the program's masters, refusals too -/
theorem fndV_no {ms : List MaM} (ok : OkMs ms) {n : V} (h : nameV n = false) : fndV ms n = none := by
  cases n with
  | str z =>
    cases e : fnd ms z with
    | none => exact e
    | some m =>
      obtain ⟨mm, nm⟩ := fnd_some e
      have h1 := (ok.all m mm).name
      rw [nm] at h1
      have h2 : nameB z = false := h
      rw [h2] at h1
      cases h1
  | _ => rfl
theorem nameV_str {v : V} (h : nameV v = true) : ∃ z, v = .str z ∧ nameB z = true := by
  cases v with
  | str z => exact ⟨z, rfl, h⟩
  | _ => cases h
theorem ok_mof {f : Addr} {fd : FuncData} {P' : Addr} (F : FnP K "master_of" smaster_of f fd) (T : Txt mg) (N_NoMaster : Er K mg "NoMaster") (D_is_name : Dn P w K mg base 1 "is_name" ["thing"] (spName P')) : FnOk P w K mg base (L2.CX P w) 2 f fd ["masters", "name"] (spMOfR K P') := by
  refine okS F scmaster_of (fun vs H Q E h => ?_) (fun cdv A outer s H vs Q E hr h => ?_)
  · obtain ⟨v, n, ms, rfl, _⟩ := h
    rfl
  · obtain ⟨v, n, ms, rfl, hv, ok, hn, hG, q, ko⟩ := h
    refine ⟨_, (pss_cons (ps_if (pt_val (pe_dn D_is_name (hr.mono (by decide)) rfl (pa_cons (pv 1) pa_nil))) (pss_one (ps_for (passes_of rfl) rfl (pi_tup (pv 0)) (pg_name (i := 2) scmaster_of.nd rfl (Or.inl rfl)) (pss_one (ps_if (pt_cmpR op_eq (pe_ix ix_tup (pv 2) pe_int (fun _ _ => rfl)) (pv 1) (nomark _)) (pss_one (ps_ret (pv 2))) pss_nil)))) pss_nil)
      (pss_one (ps_raise rfl (takes_of rfl rfl rfl rfl) (pmk_own PySem.F.excBase_ValueError N_NoMaster.x N_NoMaster.g N_NoMaster.k (raises_own N_NoMaster.b N_NoMaster.t) rfl)))), ?_⟩
    have nl : noLAll (ms.map MaM.d) = true := mas_noL ok.all
    refine ⟨_, rfl, n, rfl, hn.1, hn.2, hG, fun H1 h1 => ?_⟩
    have tk1 := Tk.tabbed h1
    refine ⟨_, rfl, iteB (fun hb => ?_) fun hb => ?_⟩
    · obtain ⟨z, rfl, nz⟩ := nameV_str hb
      obtain ⟨a, rs, rfl, sa, da⟩ := dp_tup hv
      have kt1 : KT K H H1 := KT.tk hG tk1
      refine ⟨_, rfl, a, rfl, ⟨_, kt1 _ _ sa⟩, for_tup (K := K) (a := a) (xs := rs) (fun i σ H3 => ∃ v2 : Option V, σ = [some (.ref a), some (.str z), v2] ∧ H3 = H1 ∧ (ms.take i).find? (fun m => decide (m.name = z)) = none) ?_ ?_ ?_ ?_⟩
      · exact ⟨none, rfl, rfl, rfl⟩
      · rintro i σ H3 hi ⟨_, _, rfl, _⟩
        exact kt1 _ _ sa
      · rintro i x σ H3 hi ⟨v2, rfl, rfl, hn⟩
        obtain ⟨r, er, hr'⟩ := at_rec da hi
        have hr3 := dpT_keep kt1 hr' ((ok.all r (List.mem_of_getElem? er)).noL)
        obtain ⟨c, g, ps, rfl, sc, sg, dg⟩ := ma_at hr3
        refine ⟨_, rfl, c, _, 0, .str r.name, rfl, rfl, sc, rfl, _, rfl, rfl, _, rfl, iteB (fun hb => ?_) fun hb => ?_⟩
        · have e : r.name = z := V.str.inj (of_decide_eq_true hb)
          have ef : fnd ms z = some r := find_at er (decide_eq_true e) hn
          exact ⟨_, rfl, q r _ _ ef tk1 hr3⟩
        · exact ⟨_, rfl, rfl, find_more er (decide_eq_false fun e => of_decide_eq_false hb (by rw [e])) hn⟩
      · rintro σ H3 ⟨v2, rfl, rfl, hn⟩
        have hl : rs.length = ms.length := by
          have h := dpAll_len da
          rw [List.length_map] at h
          exact h
        rw [hl, List.take_length] at hn
        exact ko hn _ tk1
    · exact ko (fndV_no ok hb) _ tk1
theorem ok_along {f : Addr} {fd : FuncData} {P' : Addr} (F : FnP K "masters_along" smasters_along f fd) (T : Txt mg) (D_master_of : DnS P w K mg base 2 "master_of" ["masters", "name"] (spMOfR K P')) : FnOk P w K mg base (L2.CX P w) 3 f fd ["masters", "name"] (spMsR K P' (RChn K)) := by
  refine okS F scmasters_along (fun vs H Q E h => ?_) (fun cdv A outer s H vs Q E hr h => ?_)
  · obtain ⟨v, n, ms, rfl, _⟩ := h
    rfl
  · obtain ⟨v, n, ms, rfl, hv, ok, hn, hG, q, ko⟩ := h
    refine ⟨_, (pss_cons (ps_set (i := 2) scmasters_along.nd rfl (Or.inl rfl) (pe_lst (pa_cons (pe_dnS D_master_of (hr.mono (by decide)) rfl (fun σ => passAt (takes_of rfl rfl rfl rfl) σ) (pa_cons (pv 0) (pa_cons (pv 1) pa_nil))) pa_nil)))
      (pss_cons (ps_while (passes_of rfl) (pt_cmpR op_notN (pe_ix ix_tup (pe_ix ix_list (pv 2) (pe_un un_neg pe_int) (fun _ _ => rfl)) pe_int (fun _ _ => rfl)) pe_non (nomark _)) (pss_one (ps_expr (pe_bm PySem.F.plainAttrs_list PySem.F.slot_list_append PySem.F.type_list_append mt_append (pv 2) (pa_cons (pe_dnS D_master_of (hr.mono (by decide)) rfl (fun σ => passAt (takes_of rfl rfl rfl rfl) σ) (pa_cons (pv 0) (pa_cons (pe_ix ix_tup (pe_ix ix_list (pv 2) (pe_un un_neg pe_int) (fun _ _ => rfl)) pe_int (fun _ _ => rfl)) pa_nil))) pa_nil)))))
      (pss_one (ps_ret (pv 2))))), ?_⟩
    have nl : noL (.tuple (ms.map MaM.d)) = true := ok.noL
    refine ⟨_, rfl, _, rfl, v, n, ms, rfl, hv, ok, hn, hG, fun m u H1 hm tk1 hu => ?_, ko⟩
    obtain ⟨rfl, hm'⟩ := fndV_some hm
    have q := q m hm
    refine ⟨(by show 1 ≤ sizeLine; decide), fun D hD => ?_⟩
    have s2 := same_new (o := .lst [u]) hD
    have hD0 : H D = none := tk1.free hG hD
    have nm : noL m.d = true := (ok.all m (fnd_some hm').1).noL
    have tk2 : Tk P' H (upd H1 D (.lst [u])) := tk1.trans (Tk.same tk1.1 s2)
    generalize ez : m.name = z at q ⊢
    refine ⟨fun n σ H2 => ∃ (l : List MaM) (m : MaM) (xs : List V) (u : V), σ = [some v, some (.str z), some (.ref D)] ∧ Tk P' H H2 ∧ H2 D = some (.lst (xs ++ [u])) ∧ DpAll K H2 xs (l.map MaM.d) ∧ Dp K H2 u m.d ∧ m ∈ ms ∧ chn ms z = l ++ chn ms m.name ∧ n = (chn ms m.name).length,
      ⟨_, [], m, [], u, rfl, tk2, upd_same, .nil, dpT_keep (KT.same s2) hu nm, (fnd_some hm').1, by rw [ez] <;> rfl, rfl⟩, ?_⟩
    clear hu nm hm hm' ez
    rintro n σ H2 ⟨l, m, xs, u, rfl, tk2, x2, d2, du, mm, ec, rfl⟩
    have es := chn_step ok (fnd_self ok.once mm)
    obtain ⟨c, g, ps, rfl, sc, sg, dg⟩ := ma_at du
    have okl : ∀ m' ∈ l, OkMa m' := fun m' hm' => ok.all m' (chn_mem (z := z) (by rw [ec]; exact List.mem_append_left _ hm'))
    have ll : l.length ≤ 20 := by
      have h := chn_len ms z
      rw [ec, List.length_append] at h
      omega
    refine ⟨_, rfl, _, rfl, D, _, -1, .ref c, rfl, rfl, SqL.of x2, atI_last _ _, c, _, 1, ovD m.over, rfl, rfl, sc, rfl, rfl, _, rfl, ?_⟩
    cases eo : m.over with
    | none =>
      simp only [eo] at es
      refine iteF ⟨_, rfl, ?_⟩
      refine q D H2 tk2 hD0 ⟨_, x2, ?_⟩
      rw [ec, es, List.map_append]
      exact dpAll_app d2 (.cons du .nil)
    | some y =>
      simp only [eo] at es
      obtain ⟨f, fl, hf⟩ := ok.over
      have hy := (hf m mm y eo).1
      obtain ⟨my, hmy⟩ := fnd_of hy
      have ny : nameB y = true := by
        obtain ⟨h1, h2⟩ := fnd_some hmy
        rw [← h2]
        exact (ok.all my h1).name
      refine iteT ⟨fun σ' H' => ∃ n', n' < (chn ms m.name).length ∧ ∃ (l : List MaM) (m : MaM) (xs : List V) (u : V), σ' = [some v, some (.str z), some (.ref D)] ∧ Tk P' H H' ∧ H' D = some (.lst (xs ++ [u])) ∧ DpAll K H' xs (l.map MaM.d) ∧ Dp K H' u m.d ∧ m ∈ ms ∧ chn ms z = l ++ chn ms m.name ∧ n' = (chn ms m.name).length, fun σ' H' h => h, ?_⟩
      refine ⟨_, rfl, .inl ⟨rfl, _, SqL.of x2⟩, _, rfl, _, rfl, _, rfl, D, _, -1, .ref c, rfl, rfl, SqL.of x2, atI_last _ _, c, _, 1, .str y, rfl, rfl, (by rw [eo] at sc; exact sc), rfl, ?_⟩
      have kt2 : KT K H H2 := KT.tk hG tk2
      refine ⟨v, .str y, ms, rfl, dpT_keep kt2 hv nl, ok, ok_str (Nat.le_of_lt (small1000 (by have := name_small ny; omega))), tk2.1, fun m' u' H3 hm' tk3 hu' => ?_, fun e => by cases hmy.symm.trans e⟩
      have x3 : H3 D = _ := tk3.lst tk2.1 x2
      refine ⟨D, _, _, rfl, rfl, x3, ?_, ?_⟩
      · have h := dpAll_len d2
        rw [List.length_map] at h
        rw [List.length_append, List.length_singleton]
        exact small1000 (by omega)
      have kt3 : KT K H2 (upd H3 D (.lst ((xs ++ [.ref c]) ++ [u']))) := (KT.tk tk2.1 tk3).trans (KT.put x3)
      have nm' := fnd_some (show fnd ms y = some m' from hm')
      refine ⟨(chn ms m'.name).length, ?_, l ++ [m], m', xs ++ [.ref c], u', rfl, ?_, upd_same, ?_, ?_, nm'.1, ?_, rfl⟩
      · rw [es, nm'.2]
        exact Nat.lt_succ_self _
      · exact Tk.put hG hD0 (tk2.trans tk3) (tab_put tk3.1 x3)
      · rw [List.map_append]
        exact dpAll_app (dpTAll_keep kt3 d2 (mas_noL okl)) (.cons (dpT_keep kt3 du (ok.all m mm).noL) .nil)
      · exact dpT_keep (KT.put x3) hu' (ok.all m' nm'.1).noL
      · rw [ec, es, nm'.2, List.append_assoc] <;> rfl
theorem said_V {l : List MaM} {y : V} (h : nameV y = false) (okl : ∀ m ∈ l, OkMa m) : saidV l y = [] := by
  cases y with
  | str z =>
    cases e : said l z with
    | nil => exact e
    | cons s r =>
      obtain ⟨m, hm, _, h2, h3⟩ := said_pl (show s ∈ said l z by rw [e]; exact List.mem_cons_self)
      have h4 := ((okl m hm).own s.2 h2).2
      rw [h3] at h4
      have h5 : nameB z = false := h
      rw [h5] at h4
      cases h4
  | _ => rfl
theorem ok_said {f : Addr} {fd : FuncData} {P' : Addr} (F : FnP K "said_of" ssaid_of f fd) (T : Txt mg) (N_NoPlace : Er K mg "NoPlace") (D_is_name : Dn P w K mg base 1 "is_name" ["thing"] (spName P')) (D_masters_along : DnS P w K mg base 3 "masters_along" ["masters", "name"] (spMsR K P' (RChn K))) :
    FnOk P w K mg base (L2.CX P w) 4 f fd ["masters", "name", "place"] (spSaid K P') := by
  refine okS F scsaid_of (fun vs H Q E h => ?_) (fun cdv A outer s H vs Q E hr h => ?_)
  · obtain ⟨v, n, y, ms, rfl, _⟩ := h
    rfl
  · obtain ⟨v, n, y, ms, rfl, hv, ok, hn, hy, hG, ko1, ko2, q⟩ := h
    refine ⟨_, (pss_cons (ps_set (i := 3) scsaid_of.nd rfl (Or.inl rfl) (pe_dnS D_masters_along (hr.mono (by decide)) rfl (fun σ => passAt (takes_of rfl rfl rfl rfl) σ) (pa_cons (pv 0) (pa_cons (pv 1) pa_nil))))
      (pss_cons (ps_if (pt_not (pt_val (pe_dn D_is_name (hr.mono (by decide)) rfl (pa_cons (pv 2) pa_nil)))) (pss_one (ps_raise rfl (takes_of rfl rfl rfl rfl) (pmk_own PySem.F.excBase_ValueError N_NoPlace.x N_NoPlace.g N_NoPlace.k (raises_own N_NoPlace.b N_NoPlace.t) rfl))) pss_nil)
      (pss_cons (ps_setLc2 (i := 4) (wi1 := iTup K (tVar 7)) (own := [("master", 5), ("over", 6), ("places", 7), ("own", 8), ("settings", 9), ("text", 10)]) (vs1 := [8, 9, 10]) (g := (gTup K 3 (gCons (gName 5) (gCons (gName 6) (gCons (gName 7) gNil))))) (g1 := (gTup K 3 (gCons (gName 8) (gCons (gName 9) (gCons (gName 10) gNil))))) (by rfl) scsaid_of.nd rfl rfl (sw_true rfl rfl rfl (by decide +kernel)) (pi_list (pv 3)) (blkOk_by (own := [("master", 5), ("over", 6), ("places", 7), ("own", 8), ("settings", 9), ("text", 10)]) (N := ["masters", "name", "place", "along", "said", "master", "over", "places", "own", "settings", "text"]) (sc := defScope ssaid_of) (by decide +kernel)) (by decide) (fun _ _ _ _ _ => (pg_tup rfl (pgs_cons (pg_name (i := 5) scsaid_of.nd rfl (Or.inl rfl)) (pgs_cons (pg_name (i := 6) scsaid_of.nd rfl (Or.inl rfl)) (pgs_cons (pg_name (i := 7) scsaid_of.nd rfl (Or.inl rfl)) pgs_nil))))) (fun _ _ _ _ _ => pts_nil) (fun _ _ _ _ _ => (pi_tup (pv 7))) (fun _ _ _ _ _ => (pg_tup rfl (pgs_cons (pg_name (i := 8) scsaid_of.nd rfl (Or.inl rfl)) (pgs_cons (pg_name (i := 9) scsaid_of.nd rfl (Or.inl rfl)) (pgs_cons (pg_name (i := 10) scsaid_of.nd rfl (Or.inl rfl)) pgs_nil))))) (fun _ _ _ _ _ => (pts_one (pt_cmpR op_eq (pv 8) (pv 2) (nomark _)))) (fun _ _ _ _ _ => (pe_tup (pa_cons (pv 5) (pa_cons (pv 9) (pa_cons (pv 10) pa_nil))))))
      (pss_cons (ps_if (pt_not (pt_truth (pv 4) (by intro _; rfl))) (pss_one (ps_raise rfl (takes_of rfl rfl rfl rfl) (pmk_own PySem.F.excBase_ValueError N_NoPlace.x N_NoPlace.g N_NoPlace.k (raises_own N_NoPlace.b N_NoPlace.t) rfl))) pss_nil)
      (pss_one (ps_ret (pv 4))))))), ?_⟩
    refine ⟨_, rfl, _, rfl, v, n, ms, rfl, hv, ok, hn, hG, fun m hm C H1 tk1 hC hc => ?_, ko1⟩
    have ko2 := ko2 m hm
    have q := q m hm
    obtain ⟨xs, x1, d1⟩ := hc
    have okc : ∀ o ∈ chn ms m.name, OkMa o := fun o ho => ok.all o (chn_mem ho)
    have lc := chn_len ms m.name
    revert q ko2 d1 okc lc
    generalize chn ms m.name = L
    intro ko2 q d1 okc lc
    have lxs : xs.length = L.length := by
      have h := dpAll_len d1
      rw [List.length_map] at h
      exact h
    have l8 : ∀ m ∈ L, m.own.length ≤ 8 := fun m hm => (okc m hm).few
    have hy1 := Ok1.tk hy hG tk1
    refine ⟨_, rfl, y, rfl, hy1.1, hy1.2, tk1.1, fun H2 h2 => ?_⟩
    have tk12 := Tk.tabbed h2
    have tk2 := tk1.trans tk12
    refine ⟨_, rfl, iteNb (fun hb => ?_) fun hb => ?_⟩
    · exact ko2 (said_V hb okc) _ tk2
    · obtain ⟨z, rfl, nz⟩ := nameV_str hb
      have kt12 : KT K H1 H2 := KT.tk tk1.1 tk12
      have x2 := tk12.lst tk1.1 x1
      have d2 := dpTAll_keep kt12 d1 (mas_noL okc)
      refine ⟨_, rfl, C, rfl, ⟨_, SqL.of x2⟩, fun D hD => ?_⟩
      have nCD : C ≠ D := ne_of_none x2 hD
      have hD0 : H D = none := tk2.free hG hD
      refine lc2_itE (walk_list (K := K) (a := C) (xs := xs)) (fun i H3 => ∃ ys, Same H2 H3 ∧ H3 D = some (.lst ys) ∧ DpAll K H3 ys ((said (L.take i) z).map sd)) ⟨[], same_new hD, upd_same, .nil⟩ (fun i H3 _ ⟨_, s3, _⟩ => SqL.of (s3 _ _ x2)) [some v, some n, some (.str z), some (.ref C), none, none, none, none, none, none, none] rfl ?_ ?_
      · rintro i x H3 H3' hi ⟨ys, s3, y3, dy⟩ ⟨rfl, hx⟩
        obtain ⟨o, eo, ho⟩ := at_rec d2 hx
        have mo := List.mem_of_getElem? eo
        obtain ⟨c, g, ps, rfl, sc, sg, dg⟩ := ma_at (dp_same s3 ho)
        refine ⟨c, _, rfl, sc, rfl, _, _, rfl, _, _, rfl, _, _, rfl, rfl, rfl, ?_⟩
        refine ⟨_, rfl, g, rfl, ⟨_, sg⟩, ?_⟩
        have lps : ps.length = o.own.length := by
          have h := dpAll_len dg
          rw [List.length_map] at h
          exact h
        have lb : (said (L.take i) z).length ≤ 160 := by
          have h := said_len (y := z) (l := L.take i) fun m hm => l8 m (List.mem_of_mem_take hm)
          rw [List.length_take] at h
          omega
        have oks : ∀ s ∈ (said (L.take i) z), OkPl s.2 := fun s hs => by
          obtain ⟨m', hm', _, h2, _⟩ := said_pl hs
          exact ((okc m' (List.mem_of_mem_take hm')).own _ h2).1
        refine lcin_itE (walk_tup (K := K) (a := g) (xs := ps)) (fun j H4 => ∃ ys, Same H2 H4 ∧ KT K H3' H4 ∧ H4 D = some (.lst ys) ∧ DpAll K H4 ys (((said (L.take i) z) ++ (((o.own.take j).filter fun p => decide (p.name = z)).map fun p => (o.name, p))).map sd)) ⟨ys, s3, KT.refl, y3, by rw [show ((o.own.take 0).filter fun p => decide (p.name = z)) = [] from rfl, List.map_nil, List.append_nil]; exact dy⟩ (fun j H4 _ ⟨_, _, kt, _⟩ => kt _ _ sg) [some v, some n, some (.str z), some (.ref C), none, some (.str o.name), some (ovD o.over), some (.ref g), none, none, none] rfl ?_ ?_
        · rintro j x H4 H4' hj ⟨ys, s4, kt4, y4, dy4⟩ ⟨rfl, hx'⟩
          obtain ⟨p, ep, hp⟩ := at_rec dg hx'
          have mp := List.mem_of_getElem? ep
          have okp := ((okc o mo).own p mp).1
          have hp4 := dpT_keep kt4 hp okp.noL
          obtain ⟨c2, g2, ss, u, rfl, sc2, sg2, ds, du⟩ := pl_at hp4
          refine ⟨c2, _, rfl, sc2, rfl, _, _, rfl, _, _, rfl, _, _, rfl, rfl, rfl, ?_⟩
          refine ⟨_, rfl, _, rfl, rfl, _, rfl, iteB (fun hb => ?_) fun hb => ?_⟩
          · have e : p.name = z := V.str.inj (of_decide_eq_true hb)
            refine ⟨_, rfl, _, rfl, _, rfl, (by show 3 ≤ sizeLine; decide), fun t ht => ?_⟩
            have st := same_new (o := .tup [V.str o.name, V.ref g2, u]) ht
            have xt : (upd H4' t (.tup [V.str o.name, V.ref g2, u])) t = some (.tup [V.str o.name, V.ref g2, u]) := upd_same
            have dt : Dp K (upd H4' t (.tup [V.str o.name, V.ref g2, u])) (.ref t) (sd (o.name, p)) := .tup (SqT.of xt) (.cons (.str _) (.cons (.tup (sqT_same st sg2) (dpAll_same st ds)) (.cons (dp_same st du) .nil)))
            have y5 := st _ _ y4
            have dy5 := dpAll_same st dy4
            have kt5 := kt4.trans (KT.same (K := K) st)
            have s5 := s4.trans st
            clear st xt
            revert dt y5 dy5 kt5 s5
            generalize upd H4' t (.tup [V.str o.name, V.ref g2, u]) = H5
            intro dt y5 dy5 kt5 s5
            have ef : ((said (L.take i) z) ++ (((o.own.take (j + 1)).filter fun p => decide (p.name = z)).map fun p => (o.name, p))) = ((said (L.take i) z) ++ (((o.own.take j).filter fun p => decide (p.name = z)).map fun p => (o.name, p))) ++ [(o.name, p)] := by
              rw [take_more ep, List.filter_append, List.map_append, List.append_assoc]
              simp [List.filter, e]
            have okall : ∀ s ∈ ((said (L.take i) z) ++ (((o.own.take j).filter fun p => decide (p.name = z)).map fun p => (o.name, p))), OkPl s.2 := fun s hs => by
              rcases List.mem_append.mp hs with hs | hs
              · exact oks s hs
              · obtain ⟨p', hp', rfl⟩ := List.mem_map.mp hs
                exact ((okc o mo).own p' (List.mem_of_mem_take (List.mem_filter.mp hp').1)).1
            have nl5 : noLAll (((said (L.take i) z) ++ (((o.own.take j).filter fun p => decide (p.name = z)).map fun p => (o.name, p))).map sd) = true := noL_all fun d hd => by
              obtain ⟨s, hs, rfl⟩ := List.mem_map.mp hd
              exact noL_sd (okall s hs)
            refine ⟨ys, y5, ?_, ys ++ [.ref t], fun b u' e' => ?_, kt5.trans (KT.put y5), upd_same, ?_⟩
            · have h := dpAll_len dy5
              have h2 := List.length_filter_le (fun p : PlM => decide (p.name = z)) (o.own.take j)
              have h3 := l8 o mo
              rw [List.length_map, List.length_append, List.length_map] at h
              rw [List.length_take] at h2
              exact small1000 (by omega)
            · rw [upd_ne (ne_of_none e' hD)]
              exact s5 _ _ e'
            · rw [ef, List.map_append]
              exact dpAll_app (dpTAll_keep (KT.put y5) dy5 nl5) (.cons (dpT_keep (KT.put y5) dt (noL_sd okp)) .nil)
          · have e : ¬ p.name = z := fun e => of_decide_eq_false hb (by rw [e])
            refine ⟨ys, s4, kt4, y4, ?_⟩
            have ef : (((o.own.take (j + 1)).filter fun p => decide (p.name = z))) = ((o.own.take j).filter fun p => decide (p.name = z)) := by
              rw [take_more ep, List.filter_append]
              simp [List.filter, e]
            rw [ef]
            exact dy4
        · rintro H4 ⟨ys, s4, kt4, y4, dy4⟩
          rw [lps, List.take_length] at dy4
          refine ⟨ys, s4, y4, ?_⟩
          rw [take_more eo, said_app, said_one]
          exact dy4
      · rintro H3 ⟨ys, s3, y3, dy⟩
        rw [lxs, List.take_length] at dy
        have tk3 := tk2.trans (Tk.same tk2.1 s3)
        refine ⟨_, rfl, _, .inl ⟨ys, SqL.of y3, rfl⟩, ?_⟩
        have ly := dpAll_len dy
        rw [List.length_map] at ly
        cases hys : ys with
        | nil =>
          rw [hys] at ly
          refine iteT (ko2 (List.length_eq_zero_iff.mp ly.symm) _ tk3)
        | cons b r =>
          rw [hys] at ly
          refine iteF ⟨_, rfl, ?_⟩
          refine q (fun e => ?_) D H3 _ tk3 hD0 y3 dy
          have e : said L z = [] := e
          rw [e] at ly
          cases ly
theorem ok_wsaid {f : Addr} {fd : FuncData} (F : FnP K "worth_said" sworth_said f fd) (T : Txt mg) (gO : mg "OWN_WORTHS" = some (.ref (He.ga K "OWN_WORTHS"))) (O : OW K w) : FnOk P w K mg base CX0 1 f fd ["said", "trait"] (spWSaid K) := by
  refine okN F scworth_said (fun vs H Q E h => ?_) (fun cdv A outer s H vs Q E hr h => ?_)
  · obtain ⟨D, t, xs, l, rfl, _⟩ := h
    rfl
  · obtain ⟨D, t, xs, l, rfl, mt, x0, d0, q⟩ := h
    refine ⟨_, (pss_cons (ps_for PassesOwn.never rfl (pi_list (pv 0)) (pg_tup rfl (pgs_cons (pg_name (i := 2) scworth_said.nd rfl (Or.inl rfl)) (pgs_cons (pg_name (i := 3) scworth_said.nd rfl (Or.inl rfl)) (pgs_cons (pg_name (i := 4) scworth_said.nd rfl (Or.inl rfl)) pgs_nil)))) (pss_one (ps_for PassesOwn.never rfl (pi_tup (pv 3)) (pg_tup rfl (pgs_cons (pg_name (i := 5) scworth_said.nd rfl (Or.inl rfl)) (pgs_cons (pg_name (i := 6) scworth_said.nd rfl (Or.inl rfl)) pgs_nil))) (pss_one (ps_if (pt_cmpR op_eq (pv 5) (pv 1) (nomark _)) (pss_one (ps_ret (pe_tup (pa_cons (pv 6) (pa_cons (pe_tup (pa_cons pe_str (pa_cons (pv 2) pa_nil))) pa_nil))))) pss_nil)))))
      (pss_one (ps_ret (pe_tup (pa_cons (pe_ix ix_kdict (pe_glob (v := .ref (He.ga K "OWN_WORTHS")) rfl gO rfl) (pv 1) (fun _ _ => rfl)) (pa_cons (pe_tup (pa_cons pe_str pa_nil)) pa_nil)))))), ?_⟩
    have lxs : xs.length = l.length := by
      have h := dpAll_len d0
      rw [List.length_map] at h
      exact h
    refine ⟨_, rfl, D, rfl, ⟨_, SqL.of x0⟩, for_list (K := K) (a := D) (xs := xs) (fun i σ H1 => ∃ v2 v3 v4 v5 v6 : Option V, σ = [some (.ref D), some (.str t), v2, v3, v4, v5, v6] ∧ H1 = H ∧ wfind (l.take i) t = none) ?_ ?_ ?_ ?_⟩
    · exact ⟨none, none, none, none, none, rfl, rfl, rfl⟩
    · rintro i σ H1 hi ⟨_, _, _, _, _, _, rfl, _⟩
      exact SqL.of x0
    · rintro i x σ H1 hi ⟨v2, v3, v4, v5, v6, rfl, rfl, hn⟩
      obtain ⟨s, es, hs⟩ := at_rec d0 hi
      obtain ⟨c, g, ss, u, rfl, sc, sg, ds, du⟩ := sd_at hs
      have lss : ss.length = s.2.sets.length := by
        have h := dpAll_len ds
        rw [List.length_map] at h
        exact h
      refine ⟨c, _, rfl, sc, rfl, _, _, rfl, _, _, rfl, _, _, rfl, rfl, ?_⟩
      refine ⟨_, rfl, g, rfl, ⟨_, sg⟩, for_tup (K := K) (a := g) (xs := ss) (fun j σ H2 => ∃ v5 v6 : Option V, σ = [some (.ref D), some (.str t), some (.str s.1), some (.ref g), some u, v5, v6] ∧ H2 = H1 ∧ (s.2.sets.take j).find? (fun x => decide (x.1 = t)) = none) ?_ ?_ ?_ ?_⟩
      · exact ⟨v5, v6, rfl, rfl, rfl⟩
      · rintro j σ H2 hj ⟨_, _, _, rfl, _⟩
        exact sg
      · rintro j x σ H2 hj ⟨v5, v6, rfl, rfl, hm⟩
        obtain ⟨e, ee, he⟩ := at_rec ds hj
        obtain ⟨c2, u2, rfl, sc2, du2⟩ := set_at he
        refine ⟨c2, _, rfl, sc2, rfl, _, _, rfl, _, _, rfl, rfl, ?_⟩
        refine ⟨_, rfl, _, rfl, rfl, _, rfl, iteB (fun hb => ?_) fun hb => ?_⟩
        · have e1 : e.1 = t := V.str.inj (of_decide_eq_true hb)
          have hf := find_at ee (p := fun x => decide (x.1 = t)) (decide_eq_true e1) hm
          refine ⟨_, rfl, _, rfl, (by show 2 ≤ sizeLine; decide), fun t1 ht1 => ?_⟩
          have s1 := same_new (o := .tup [V.str "master", V.str s.1]) ht1
          refine ⟨(by show 2 ≤ sizeLine; decide), fun t2 ht2 => ?_⟩
          have s2 := same_new (o := .tup [u2, V.ref t1]) ht2
          refine q _ _ (s1.trans s2) ?_
          have ew : wfind l t = some (e.2, s.1) := by
            rw [split_at es, wfind_app hn, wfind_one hf]
          unfold resW
          rw [ew]
          exact .tup (SqT.of upd_same) (.cons (dp_same (s1.trans s2) du2) (.cons (.tup (sqT_same s2 (SqT.of upd_same)) (.cons (.str _) (.cons (.str _) .nil))) .nil))
        · exact ⟨_, _, rfl, rfl, find_more ee (p := fun x => decide (x.1 = t)) (decide_eq_false fun e => of_decide_eq_false hb (by rw [e])) hm⟩
      · rintro σ H2 ⟨v5, v6, rfl, rfl, hm⟩
        rw [lss, List.take_length] at hm
        refine ⟨_, _, _, _, _, rfl, rfl, ?_⟩
        rw [take_more es, wfind_app hn, wfind_no hm]
        rfl
    · rintro σ H1 ⟨v2, v3, v4, v5, v6, rfl, rfl, hn⟩
      rw [lxs, List.take_length] at hn
      obtain ⟨wv, kd, dw⟩ := O.at_ t mt
      refine ⟨_, rfl, _, t, _, rfl, rfl, kd, ?_⟩
      refine ⟨(by show 1 ≤ sizeLine; decide), fun t1 ht1 => ?_⟩
      have s1 := same_new (o := .tup [V.str "own"]) ht1
      refine ⟨(by show 2 ≤ sizeLine; decide), fun t2 ht2 => ?_⟩
      have s2 := same_new (o := .tup [wv, V.ref t1]) ht2
      refine q _ _ (s1.trans s2) ?_
      unfold resW
      rw [hn]
      exact .tup (SqT.of upd_same) (.cons (dw _) (.cons (.tup (sqT_same s2 (SqT.of upd_same)) (.cons (.str _) .nil)) .nil))
theorem ok_wby {f : Addr} {fd : FuncData} {P' : Addr} (F : FnP K "worth_by" sworth_by f fd) (T : Txt mg) (N_NoTrait : Er K mg "NoTrait") (D_is_trait : Dn P w K mg base 2 "is_trait" ["thing"] spTrait) (D_said_of : DnS P w K mg base 4 "said_of" ["masters", "name", "place"] (spSaid K P')) (D_worth_said : Dn P w K mg base 1 "worth_said" ["said", "trait"] (spWSaid K)) :
    FnOk P w K mg base (L2.CX P w) 5 f fd ["masters", "name", "place", "trait"] (spWBy K P') := by
  refine okS F scworth_by (fun vs H Q E h => ?_) (fun cdv A outer s H vs Q E hr h => ?_)
  · obtain ⟨v, n, y, t, ms, rfl, _⟩ := h
    rfl
  · obtain ⟨v, n, y, t, ms, rfl, hv, ok, hn, hy, ht, hG, ko1, ko2, ko3, q⟩ := h
    refine ⟨_, (pss_cons (ps_set (i := 4) scworth_by.nd rfl (Or.inl rfl) (pe_dnS D_said_of (hr.mono (by decide)) rfl (fun σ => passAt (takes_of rfl rfl rfl rfl) σ) (pa_cons (pv 0) (pa_cons (pv 1) (pa_cons (pv 2) pa_nil)))))
      (pss_cons (ps_if (pt_not (pt_val (pe_dn D_is_trait (hr.mono (by decide)) rfl (pa_cons (pv 3) pa_nil)))) (pss_one (ps_raise rfl (takes_of rfl rfl rfl rfl) (pmk_own PySem.F.excBase_ValueError N_NoTrait.x N_NoTrait.g N_NoTrait.k (raises_own N_NoTrait.b N_NoTrait.t) rfl))) pss_nil)
      (pss_one (ps_ret (pe_dn D_worth_said (hr.mono (by decide)) rfl (pa_cons (pv 4) (pa_cons (pv 3) pa_nil))))))), ?_⟩
    refine ⟨_, rfl, _, rfl, _, rfl, v, n, y, ms, rfl, hv, ok, hn, hy, hG, ko1, ko2, fun m hm ne D H1 xs tk1 hD x1 d1 => ?_⟩
    refine ⟨_, rfl, t, rfl, (Ok1.tk ht hG tk1).1, _, rfl, iteNb (fun hb => ?_) fun hb => ?_⟩
    · exact ko3 m hm ne hb _ tk1
    · obtain ⟨z, rfl, mz⟩ := trait_mem hb
      exact ⟨_, rfl, _, rfl, D, z, xs, _, rfl, mz, x1, d1, fun u H' s' du => q m z hm ne rfl mz u H' (tk1.trans (Tk.same tk1.1 s')) du⟩
theorem ok_tby {f : Addr} {fd : FuncData} {P' : Addr} (F : FnP K "text_by" stext_by f fd) (T : Txt mg) (D_said_of : DnS P w K mg base 4 "said_of" ["masters", "name", "place"] (spSaid K P')) :
    FnOk P w K mg base (L2.CX P w) 5 f fd ["masters", "name", "place"] (spTBy K P') := by
  refine okS F sctext_by (fun vs H Q E h => ?_) (fun cdv A outer s H vs Q E hr h => ?_)
  · obtain ⟨v, n, y, ms, rfl, _⟩ := h
    rfl
  · obtain ⟨v, n, y, ms, rfl, hv, ok, hn, hy, hG, ko1, ko2, q⟩ := h
    refine ⟨_, (pss_cons (ps_for (passes_of rfl) rfl (pi_list (pe_dnS D_said_of (hr.mono (by decide)) rfl (fun σ => passAt (takes_of rfl rfl rfl rfl) σ) (pa_cons (pv 0) (pa_cons (pv 1) (pa_cons (pv 2) pa_nil))))) (pg_tup rfl (pgs_cons (pg_name (i := 3) sctext_by.nd rfl (Or.inl rfl)) (pgs_cons (pg_name (i := 4) sctext_by.nd rfl (Or.inl rfl)) (pgs_cons (pg_name (i := 5) sctext_by.nd rfl (Or.inl rfl)) pgs_nil)))) (pss_one (ps_if (pt_cmpR op_notN (pv 5) pe_non (nomark _)) (pss_one (ps_ret (pe_tup (pa_cons (pv 5) (pa_cons (pv 3) pa_nil))))) pss_nil)))
      (pss_one (ps_ret (pe_tup (pa_cons pe_non (pa_cons pe_non pa_nil)))))), ?_⟩
    refine ⟨_, rfl, _, rfl, _, rfl, v, n, y, ms, rfl, hv, ok, hn, hy, hG, ko1, ko2, fun m hm ne D H1 xs tk1 hD x1 d1 => ?_⟩
    have q := q m hm ne
    revert d1 q
    generalize saidV (chn ms m.name) y = l
    intro d1 q
    have lxs : xs.length = l.length := by
      have h := dpAll_len d1
      rw [List.length_map] at h
      exact h
    refine ⟨D, rfl, ⟨_, SqL.of x1⟩, for_list (K := K) (a := D) (xs := xs) (fun i σ H2 => ∃ v3 v4 v5 : Option V, σ = [some v, some n, some y, v3, v4, v5] ∧ H2 = H1 ∧ tfind (l.take i) = none) ?_ ?_ ?_ ?_⟩
    · exact ⟨none, none, none, rfl, rfl, rfl⟩
    · rintro i σ H2 hi ⟨_, _, _, _, rfl, _⟩
      exact SqL.of x1
    · rintro i x σ H2 hi ⟨v3, v4, v5, rfl, rfl, hn⟩
      obtain ⟨s, es, hs⟩ := at_rec d1 hi
      obtain ⟨c, g, ss, u, rfl, sc, sg, ds, du⟩ := sd_at hs
      refine ⟨c, _, rfl, sc, rfl, _, _, rfl, _, _, rfl, _, _, rfl, rfl, ?_⟩
      cases et : s.2.text with
      | none =>
        rw [et] at du
        obtain rfl := dp_non du
        refine ⟨_, rfl, rfl, _, rfl, iteF ⟨_, _, _, rfl, rfl, ?_⟩⟩
        rw [take_more es, tfind_app hn, tfind_no et]
        rfl
      | some ls =>
        rw [et] at du
        obtain ⟨a, us, rfl, sa, dus⟩ := dp_tup (show Dp K H2 u (.tuple (ls.map .str)) from du)
        refine ⟨_, rfl, rfl, _, rfl, iteT ⟨_, rfl, _, rfl, (by show 2 ≤ sizeLine; decide), fun t ht => ?_⟩⟩
        have st := same_new (o := .tup [V.ref a, V.str s.1]) ht
        refine q _ _ (tk1.trans (Tk.same tk1.1 st)) ?_
        have ew : tfind l = some (ls, s.1) := by
          rw [split_at es, tfind_app hn, tfind_one et]
        unfold Gk.resT
        rw [ew]
        exact .tup (SqT.of upd_same) (.cons (dp_same st du) (.cons (.str _) .nil))
    · rintro σ H2 ⟨v3, v4, v5, rfl, rfl, hn⟩
      rw [lxs, List.take_length] at hn
      refine ⟨(by show 2 ≤ sizeLine; decide), fun t ht => ?_⟩
      have st := same_new (o := .tup [V.non, V.non]) ht
      refine q _ _ (tk1.trans (Tk.same tk1.1 st)) ?_
      unfold Gk.resT
      rw [hn]
      exact .tup (SqT.of upd_same) (.cons .non (.cons .non .nil))

/-! ### chains and places, refusals too -/
theorem ok_cof {f : Addr} {fd : FuncData} {P' : Addr} (F : FnP K "chain_of" schain_of f fd) (T : Txt mg) (D_masters_along : DnS P w K mg base 3 "masters_along" ["masters", "name"] (spMsR K P' (RChn K))) : FnOk P w K mg base (L2.CX P w) 4 f fd ["masters", "name"] (spMsR K P' RNms) := by
  refine okS F scchain_of (fun vs H Q E h => ?_) (fun cdv A outer s H vs Q E hr h => ?_)
  · obtain ⟨v, n, ms, rfl, _⟩ := h
    rfl
  · obtain ⟨v, n, ms, rfl, hv, ok, hn, hG, q, ko⟩ := h
    refine ⟨_, (pss_one (ps_ret (pe_lc (own := [("master", 2)]) (g := gName 2) (by rfl) scchain_of.nd (pi_list (pe_dnS D_masters_along (hr.mono (by decide)) rfl (fun σ => passAt (takes_of rfl rfl rfl rfl) σ) (pa_cons (pv 0) (pa_cons (pv 1) pa_nil)))) (blkOk_by (own := [("master", 2)]) (N := ["masters", "name", "master"]) (sc := defScope schain_of) (by decide +kernel)) (fun _ _ _ _ _ => (pg_name (i := 2) scchain_of.nd rfl (Or.inl rfl))) (fun _ _ _ _ _ => pts_nil) (fun _ _ _ _ _ => (pe_ix (r := rIxT K) ix_tup (pv 2) pe_int (fun _ _ => rfl)))))), ?_⟩
    refine ⟨_, rfl, _, rfl, v, n, ms, rfl, hv, ok, hn, hG, fun m0 hm0 C H1 tk1 hC hc => ?_, ko⟩
    obtain ⟨xs, x1, d1⟩ := hc
    have q := q m0 hm0
    clear hm0
    revert d1 q
    generalize m0.name = z
    intro d1 q
    refine ⟨C, rfl, ⟨_, SqL.of x1⟩, fun D hD => ?_⟩
    have lxs : xs.length = (chn ms z).length := by
      have h := dpAll_len d1
      rw [List.length_map] at h
      exact h
    have ln := chn_len ms z
    refine lc_list (K := K) (a := C) (xs := xs) (fun i H3 => Same H1 H3 ∧ H3 D = some (.lst ((((chn ms z).take i).map (·.name)).map V.str))) ⟨same_new hD, upd_same⟩ (fun i H3 _ h => SqL.of (h.1 _ _ x1)) ?_ ?_
    · rintro i x H3 hi ⟨s3, x3⟩
      obtain ⟨m, em, hm⟩ := at_rec d1 hi
      obtain ⟨c, g, ps, rfl, sc, sg, dg⟩ := ma_at (dp_same s3 hm)
      refine ⟨rfl, ?_⟩
      refine ⟨_, rfl, c, _, 0, .str m.name, rfl, rfl, sc, rfl, _, x3, ?_, fun b o e => ?_, ?_⟩
      · rw [List.length_map, List.length_map, List.length_take]
        exact small1000 (by omega)
      · rw [upd_ne (ne_of_none e hD)]
        exact s3 _ _ e
      · rw [upd_same, take_more em, List.map_append, List.map_append] <;> rfl
    · rintro H3 ⟨s3, x3⟩
      rw [lxs, List.take_length] at x3
      exact q D H3 (tk1.trans (Tk.same tk1.1 s3)) (tk1.free hG hD) x3
theorem ok_pof {f : Addr} {fd : FuncData} {P' : Addr} (F : FnP K "places_of" splaces_of f fd) (T : Txt mg) (D_masters_along : DnS P w K mg base 3 "masters_along" ["masters", "name"] (spMsR K P' (RChn K))) : FnOk P w K mg base (L2.CX P w) 4 f fd ["masters", "name"] (spMsR K P' RThere) := by
  refine okS F scplaces_of (fun vs H Q E h => ?_) (fun cdv A outer s H vs Q E hr h => ?_)
  · obtain ⟨v, n, ms, rfl, _⟩ := h
    rfl
  · obtain ⟨v, n, ms, rfl, hv, ok, hn, hG, q, ko⟩ := h
    refine ⟨_, (pss_cons (ps_set (i := 2) scplaces_of.nd rfl (Or.inl rfl) (pe_lst pa_nil))
      (pss_cons (ps_for (passes_of rfl) rfl (pi_reversed rfl T.m_reversed (pa_cons (pe_dnS D_masters_along (hr.mono (by decide)) rfl (fun σ => passAt (takes_of rfl rfl rfl rfl) σ) (pa_cons (pv 0) (pa_cons (pv 1) pa_nil))) pa_nil)) (pg_tup rfl (pgs_cons (pg_name (i := 3) scplaces_of.nd rfl (Or.inl rfl)) (pgs_cons (pg_name (i := 4) scplaces_of.nd rfl (Or.inl rfl)) (pgs_cons (pg_name (i := 5) scplaces_of.nd rfl (Or.inl rfl)) pgs_nil)))) (pss_one (ps_for (passes_of rfl) rfl (pi_tup (pv 5)) (pg_tup rfl (pgs_cons (pg_name (i := 6) scplaces_of.nd rfl (Or.inl rfl)) (pgs_cons (pg_name (i := 7) scplaces_of.nd rfl (Or.inl rfl)) (pgs_cons (pg_name (i := 8) scplaces_of.nd rfl (Or.inl rfl)) pgs_nil)))) (pss_one (ps_if (pt_cmpR op_notIn_seq (pv 6) (pv 2) rfl) (pss_one (ps_expr (pe_bm PySem.F.plainAttrs_list PySem.F.slot_list_append PySem.F.type_list_append mt_append (pv 2) (pa_cons (pv 6) pa_nil)))) pss_nil)))))
      (pss_one (ps_ret (pv 2))))), ?_⟩
    refine ⟨(by show 0 ≤ sizeLine; decide), fun D hD => ?_⟩
    have s0 := same_new (o := .lst []) hD
    have xD : (upd H D (.lst [])) D = some (.lst []) := upd_same
    have hv := dp_same s0 hv
    have hn0 := Ok1.same hn s0
    have hG0 := tabSame hG s0
    have tk0 : Tk P' H (upd H D (.lst [])) := Tk.same hG s0
    revert xD hv hG0 tk0 hn0
    generalize upd H D (.lst []) = H0
    clear s0
    intro xD hv hn0 hG0 tk0
    refine ⟨_, rfl, _, rfl, v, n, ms, rfl, hv, ok, hn0, hG0, fun m0 hm0 C H1 tk1 hC hc => ?_, fun e H' tk => ko e H' (tk0.trans tk)⟩
    obtain ⟨xs, x1, d1⟩ := hc
    have q := q m0 hm0
    clear hm0
    revert d1 q
    generalize m0.name = z
    intro d1 q
    have xD1 := tk1.lst hG0 xD
    have nCD : C ≠ D := (ne_of_none xD hC).symm
    have e0 : there ms z = (plN (chn ms z).reverse).foldl addN [] := rfl
    have okc : ∀ m ∈ (chn ms z).reverse, OkMa m := fun m hm => ok.all m (chn_mem (List.mem_reverse.mp hm))
    have lc : (chn ms z).reverse.length ≤ 20 := by
      rw [List.length_reverse]
      exact chn_len ms z
    have dR : DpAll K H1 xs.reverse ((chn ms z).reverse.map MaM.d) := by
      rw [List.map_reverse]
      exact dpAll_rev d1
    revert dR okc lc e0
    generalize (chn ms z).reverse = L
    intro e0 okc lc dR
    have lxs : xs.length = L.length := by
      have h := dpAll_len dR
      rw [List.length_map, List.length_reverse] at h
      exact h
    have l8 : ∀ m ∈ L, m.own.length ≤ 8 := fun m hm => (okc m hm).few
    refine ⟨C, xs, rfl, SqL.of x1, for_it (walk_rev (K := K) (a := C) (xs := xs)) (fun i σ H3 => ∃ (v3 v4 v5 v6 v7 v8 : Option V), σ = [some v, some n, some (.ref D), v3, v4, v5, v6, v7, v8] ∧ Tk P' H H3 ∧ KT K H1 H3 ∧ H3 C = some (.lst xs) ∧ H3 D = some (.lst (((plN (L.take i)).foldl addN []).map V.str))) ?_ ?_ ?_ ?_⟩
    · exact ⟨none, none, none, none, none, none, rfl, tk0.trans tk1, KT.refl, x1, xD1⟩
    · rintro i σ H3 hi ⟨_, _, _, _, _, _, _, _, _, x3, _⟩
      exact SqL.of x3
    · rintro i x σ H3 H4 hi ⟨v3, v4, v5, v6, v7, v8, rfl, tk3, kt3, x3, y3⟩ ⟨rfl, ex⟩
      have hi' : xs.reverse[i]? = some x := by
        rw [List.getElem?_reverse hi]
        exact ex
      obtain ⟨m, em, hm⟩ := at_rec dR hi'
      have mm := List.mem_of_getElem? em
      have lt : i < L.length := (List.getElem?_eq_some_iff.mp em).1
      have hm3 := dpT_keep kt3 hm (okc m mm).noL
      obtain ⟨c, g, ps, rfl, sc, sg, dg⟩ := ma_at hm3
      refine ⟨c, _, rfl, sc, rfl, _, _, rfl, _, _, rfl, _, _, rfl, rfl, _, rfl, g, rfl, ⟨_, sg⟩, ?_⟩
      have lb : (plN (L.take i)).length ≤ 160 := by
        have h := plN_len (l := L.take i) fun m hm => l8 m (List.mem_of_mem_take hm)
        rw [List.length_take] at h
        omega
      have lm := l8 m mm
      have lps : ps.length = m.own.length := by
        have h := dpAll_len dg
        rw [List.length_map] at h
        exact h
      refine for_tup (K := K) (a := g) (xs := ps) (fun j σ H5 => ∃ v6 v7 v8 : Option V, σ = [some v, some n, some (.ref D), some (.str m.name), some (ovD m.over), some (.ref g), v6, v7, v8] ∧ Tk P' H H5 ∧ KT K H4 H5 ∧ H5 C = some (.lst xs) ∧ H5 D = some (.lst ((((m.own.take j).map (·.name)).foldl addN ((plN (L.take i)).foldl addN [])).map V.str))) ?_ ?_ ?_ ?_
      · exact ⟨v6, v7, v8, rfl, tk3, KT.refl, x3, y3⟩
      · rintro j σ H5 hj ⟨_, _, _, _, _, kt4, _⟩
        exact kt4 _ _ sg
      · rintro j x σ H5 hj ⟨v6, v7, v8, rfl, tk5, kt5, x5, y5⟩
        obtain ⟨p, ep, hp⟩ := at_rec dg hj
        have mp := List.mem_of_getElem? ep
        have hp4 := dpT_keep kt5 hp ((okc m mm).own p mp).1.noL
        obtain ⟨c2, g2, ss, u, rfl, sc2, sg2, ds, du⟩ := pl_at hp4
        have et : ((m.own.take (j + 1)).map (·.name)).foldl addN ((plN (L.take i)).foldl addN []) = addN (((m.own.take j).map (·.name)).foldl addN ((plN (L.take i)).foldl addN [])) p.name := by
          rw [take_more ep, List.map_append, List.foldl_append] <;> rfl
        have lf : (((m.own.take j).map (·.name)).foldl addN ((plN (L.take i)).foldl addN [])).length ≤ 200 := by
          have h1 := fold_len (l := (m.own.take j).map (·.name)) (acc := (plN (L.take i)).foldl addN [])
          have h2 := fold_len (l := plN (L.take i)) (acc := [])
          rw [List.length_map, List.length_take] at h1
          have h3 : ([] : List Str).length = 0 := rfl
          omega
        revert et lf y5
        generalize (((m.own.take j).map (·.name)).foldl addN ((plN (L.take i)).foldl addN [])) = acc
        intro y5 et lf
        refine ⟨c2, _, rfl, sc2, rfl, _, _, rfl, _, _, rfl, _, _, rfl, rfl, ?_⟩
        refine ⟨_, rfl, _, rfl, D, _, rfl, .inl (SqL.of y5), rfl, flat_strs acc, _, rfl, ?_⟩
        rw [inV_strs]
        refine iteNb (fun h => ?_) fun h => ?_
        · have hn : p.name ∉ acc := of_decide_eq_false h
          refine ⟨_, rfl, .inl ⟨rfl, _, SqL.of y5⟩, _, rfl, D, _, _, rfl, rfl, y5, ?_, ?_⟩
          · rw [List.length_map]
            exact small1000 (by omega)
          refine ⟨_, _, _, rfl, Tk.put hG hD tk5 (tab_put tk5.1 y5), kt5.trans (KT.put y5), ?_, ?_⟩
          · rw [upd_ne nCD]
            exact x5
          · rw [upd_same, et]
            unfold addN
            rw [if_neg hn, List.map_append] <;> rfl
        · have hn : p.name ∈ acc := of_decide_eq_true h
          refine ⟨_, _, _, rfl, tk5, kt5, x5, ?_⟩
          rw [et]
          unfold addN
          rw [if_pos hn]
          exact y5
      · rintro σ H5 ⟨v6, v7, v8, rfl, tk5, kt5, x5, y5⟩
        rw [lps, List.take_length] at y5
        refine ⟨_, _, _, _, _, _, rfl, tk5, kt3.trans kt5, x5, ?_⟩
        rw [take_more em, plN_app, List.foldl_append]
        exact y5
    · rintro σ H3 ⟨v3, v4, v5, v6, v7, v8, rfl, tk3, kt3, x3, y3⟩
      rw [lxs, List.take_length, ← e0] at y3
      exact ⟨_, rfl, q D H3 tk3 hD y3⟩

end
end K7

set_option Elab.async false
set_option linter.all false
set_option maxRecDepth 100000
set_option maxHeartbeats 2000000
namespace K7
open PySem PySem.Spec PyProof.Rows L2 GxR Gx Gd Gn Gm Gc Gk Gw
abbrev slaw_word : Stmt := top 58
theorem sclaw_word : FnScope ["e", "words", "some"] ["e"] (defScope slaw_word) := ⟨rfl, rfl, rfl, by decide +kernel, rfl, by decide +kernel, by decide +kernel⟩
abbrev slaw_told : Stmt := top 59
theorem sclaw_told : FnScope ["way", "masters", "name", "place", "trait", "kept", "e"] ["way", "masters", "name", "place", "trait"] (defScope slaw_told) := ⟨rfl, rfl, rfl, by decide +kernel, rfl, by decide +kernel, by decide +kernel⟩
section
variable {P : Program} {w : World} {K : PySem.W.Frag} {mg : Str → Option Value} {base : Heap}
/-! ### the word of an error -/
theorem ok_word {f : Addr} {fd : FuncData} (F : FnP K "_law_word" slaw_word f fd) (T : Txt mg) (C : TxtC K mg) : FnOk P w K mg base CX0 1 f fd ["e"] (spWord K mg) := by
  refine okN F sclaw_word (fun vs H Q E h => ?_) (fun cdv A outer s H vs Q E hr h => ?_)
  · obtain ⟨a, one, rfl, _⟩ := h
    rfl
  · obtain ⟨a, one, rfl, N, hA, q⟩ := h
    refine ⟨_, (pss_cons (ps_set (i := 1) sclaw_word.nd rfl (Or.inl rfl) (pe_lst (pa_cons pe_str (pa_cons pe_str (pa_cons pe_str (pa_cons pe_str (pa_cons pe_str (pa_cons pe_str (pa_cons pe_str (pa_cons pe_str (pa_cons pe_str (pa_cons pe_str (pa_cons pe_str (pa_cons pe_str pa_nil))))))))))))))
      (pss_cons (ps_set (i := 1) sclaw_word.nd rfl (Or.inl rfl) (pe_op op_cat (pv 1) (pe_lst (pa_cons pe_str (pa_cons pe_str (pa_cons pe_str (pa_cons pe_str (pa_cons pe_str (pa_cons pe_str (pa_cons pe_str (pa_cons pe_str (pa_cons pe_str (pa_cons pe_str (pa_cons pe_str pa_nil))))))))))))))
      (pss_cons (ps_set (i := 2) sclaw_word.nd rfl (Or.inl rfl) (pe_lst (pa_cons (pe_callB call_isK (by rfl) T.m_isinstance (by decide +kernel) (pa_cons (pv 0) (pa_cons (pe_glob (v := .ref (He.ga K "NoDeck")) rfl (C.cls "NoDeck" (by decide +kernel)) rfl) pa_nil))) (pa_cons (pe_callB call_isK (by rfl) T.m_isinstance (by decide +kernel) (pa_cons (pv 0) (pa_cons (pe_glob (v := .ref (He.ga K "NoDeed")) rfl (C.cls "NoDeed" (by decide +kernel)) rfl) pa_nil))) (pa_cons (pe_callB call_isK (by rfl) T.m_isinstance (by decide +kernel) (pa_cons (pv 0) (pa_cons (pe_glob (v := .ref (He.ga K "NoLink")) rfl (C.cls "NoLink" (by decide +kernel)) rfl) pa_nil))) (pa_cons (pe_callB call_isK (by rfl) T.m_isinstance (by decide +kernel) (pa_cons (pv 0) (pa_cons (pe_glob (v := .ref (He.ga K "NoMaster")) rfl (C.cls "NoMaster" (by decide +kernel)) rfl) pa_nil))) pa_nil))))))
      (pss_cons (ps_set (i := 2) sclaw_word.nd rfl (Or.inl rfl) (pe_op op_cat (pv 2) (pe_lst (pa_cons (pe_callB call_isK (by rfl) T.m_isinstance (by decide +kernel) (pa_cons (pv 0) (pa_cons (pe_glob (v := .ref (He.ga K "NoName")) rfl (C.cls "NoName" (by decide +kernel)) rfl) pa_nil))) (pa_cons (pe_callB call_isK (by rfl) T.m_isinstance (by decide +kernel) (pa_cons (pv 0) (pa_cons (pe_glob (v := .ref (He.ga K "NoNumber")) rfl (C.cls "NoNumber" (by decide +kernel)) rfl) pa_nil))) (pa_cons (pe_callB call_isK (by rfl) T.m_isinstance (by decide +kernel) (pa_cons (pv 0) (pa_cons (pe_glob (v := .ref (He.ga K "NoPlace")) rfl (C.cls "NoPlace" (by decide +kernel)) rfl) pa_nil))) (pa_cons (pe_callB call_isK (by rfl) T.m_isinstance (by decide +kernel) (pa_cons (pv 0) (pa_cons (pe_glob (v := .ref (He.ga K "NoPress")) rfl (C.cls "NoPress" (by decide +kernel)) rfl) pa_nil))) pa_nil)))))))
      (pss_cons (ps_set (i := 2) sclaw_word.nd rfl (Or.inl rfl) (pe_op op_cat (pv 2) (pe_lst (pa_cons (pe_callB call_isK (by rfl) T.m_isinstance (by decide +kernel) (pa_cons (pv 0) (pa_cons (pe_glob (v := .ref (He.ga K "NoRoom")) rfl (C.cls "NoRoom" (by decide +kernel)) rfl) pa_nil))) (pa_cons (pe_callB call_isK (by rfl) T.m_isinstance (by decide +kernel) (pa_cons (pv 0) (pa_cons (pe_glob (v := .ref (He.ga K "NoRow")) rfl (C.cls "NoRow" (by decide +kernel)) rfl) pa_nil))) (pa_cons (pe_callB call_isK (by rfl) T.m_isinstance (by decide +kernel) (pa_cons (pv 0) (pa_cons (pe_glob (v := .ref (He.ga K "NoSetting")) rfl (C.cls "NoSetting" (by decide +kernel)) rfl) pa_nil))) (pa_cons (pe_callB call_isK (by rfl) T.m_isinstance (by decide +kernel) (pa_cons (pv 0) (pa_cons (pe_glob (v := .ref (He.ga K "NoShow")) rfl (C.cls "NoShow" (by decide +kernel)) rfl) pa_nil))) pa_nil)))))))
      (pss_cons (ps_set (i := 2) sclaw_word.nd rfl (Or.inl rfl) (pe_op op_cat (pv 2) (pe_lst (pa_cons (pe_callB call_isK (by rfl) T.m_isinstance (by decide +kernel) (pa_cons (pv 0) (pa_cons (pe_glob (v := .ref (He.ga K "NoSlide")) rfl (C.cls "NoSlide" (by decide +kernel)) rfl) pa_nil))) (pa_cons (pe_callB call_isK (by rfl) T.m_isinstance (by decide +kernel) (pa_cons (pv 0) (pa_cons (pe_glob (v := .ref (He.ga K "NoSteps")) rfl (C.cls "NoSteps" (by decide +kernel)) rfl) pa_nil))) (pa_cons (pe_callB call_isK (by rfl) T.m_isinstance (by decide +kernel) (pa_cons (pv 0) (pa_cons (pe_glob (v := .ref (He.ga K "NoText")) rfl (C.cls "NoText" (by decide +kernel)) rfl) pa_nil))) (pa_cons (pe_callB call_isK (by rfl) T.m_isinstance (by decide +kernel) (pa_cons (pv 0) (pa_cons (pe_glob (v := .ref (He.ga K "NoTime")) rfl (C.cls "NoTime" (by decide +kernel)) rfl) pa_nil))) pa_nil)))))))
      (pss_cons (ps_set (i := 2) sclaw_word.nd rfl (Or.inl rfl) (pe_op op_cat (pv 2) (pe_lst (pa_cons (pe_callB call_isK (by rfl) T.m_isinstance (by decide +kernel) (pa_cons (pv 0) (pa_cons (pe_glob (v := .ref (He.ga K "NoTrait")) rfl (C.cls "NoTrait" (by decide +kernel)) rfl) pa_nil))) (pa_cons (pe_callB call_isK (by rfl) T.m_isinstance (by decide +kernel) (pa_cons (pv 0) (pa_cons (pe_glob (v := .ref (He.ga K "NoWord")) rfl (C.cls "NoWord" (by decide +kernel)) rfl) pa_nil))) (pa_cons (pe_callB call_isK (by rfl) T.m_isinstance (by decide +kernel) (pa_cons (pv 0) (pa_cons (pe_glob (v := .ref (He.ga K "NoWorth")) rfl (C.cls "NoWorth" (by decide +kernel)) rfl) pa_nil))) (pa_cons (pe_callB call_isK (by rfl) T.m_isinstance (by decide +kernel) (pa_cons (pv 0) (pa_cons (pe_glob (v := .ref (He.ga K "Ring")) rfl (C.cls "Ring" (by decide +kernel)) rfl) pa_nil))) pa_nil)))))))
      (pss_cons (ps_set (i := 2) sclaw_word.nd rfl (Or.inl rfl) (pe_op op_cat (pv 2) (pe_lst (pa_cons (pe_callB call_isK (by rfl) T.m_isinstance (by decide +kernel) (pa_cons (pv 0) (pa_cons (pe_glob (v := .ref (He.ga K "Taken")) rfl (C.cls "Taken" (by decide +kernel)) rfl) pa_nil))) (pa_cons (pe_callB call_isK (by rfl) T.m_isinstance (by decide +kernel) (pa_cons (pv 0) (pa_cons (pe_glob (v := .ref (He.ga K "TooMany")) rfl (C.cls "TooMany" (by decide +kernel)) rfl) pa_nil))) (pa_cons (pe_callB call_isK (by rfl) T.m_isinstance (by decide +kernel) (pa_cons (pv 0) (pa_cons (pe_glob (v := .ref (He.ga K "Used")) rfl (C.cls "Used" (by decide +kernel)) rfl) pa_nil))) pa_nil))))))
      (pss_cons (ps_if (PW.pt (pw_or (pt_cmpR op_ne (pe_bm PySem.F.plainAttrs_list PySem.F.slot_list_count PySem.F.type_list_count mt_lcountV (pv 2) (pa_cons pe_bl pa_nil)) pe_int (nomark _)) (pw_or1 (pt_not (pt_val (pe_callB call_isK (by rfl) T.m_isinstance (by decide +kernel) (pa_cons (pv 0) (pa_cons (pe_bltn (v := .ty "ValueError") (u := .type "ValueError") rfl T.m_ValueError (by decide +kernel) rfl) pa_nil)))))))) (pss_one (ps_ret pe_str)) pss_nil)
      (pss_one (ps_ret (pe_ix ix_list (pv 1) (pe_bm PySem.F.plainAttrs_list PySem.F.slot_list_index PySem.F.type_list_index mt_index (pv 2) (pa_cons pe_bl pa_nil)) (fun _ _ => rfl))))))))))))), ?_⟩
    refine ⟨(by show 12 ≤ sizeLine; decide), fun w1 hw1 => ?_⟩
    have x1 : (upd H w1 (.lst (WRA.map V.str))) w1 = some (.lst (WRA.map V.str)) := upd_same
    have n1 : Same H (upd H w1 (.lst (WRA.map V.str))) := same_new hw1
    refine ⟨_, rfl, (by show 11 ≤ sizeLine; decide), fun w2 hw2 => ?_⟩
    have x2 : (upd (upd H w1 (.lst (WRA.map V.str))) w2 (.lst (WRB.map V.str))) w2 = some (.lst (WRB.map V.str)) := upd_same
    have n2 : Same (upd H w1 (.lst (WRA.map V.str))) (upd (upd H w1 (.lst (WRA.map V.str))) w2 (.lst (WRB.map V.str))) := same_new hw2
    refine ⟨w1, w2, WRA.map V.str, WRB.map V.str, rfl, rfl, n2 _ _ x1, x2, (by show 23 ≤ sizeLine; decide), fun W hW => ?_⟩
    have eW : (upd (upd (upd H w1 (.lst (WRA.map V.str))) w2 (.lst (WRB.map V.str))) W (.lst (WRA.map V.str ++ WRB.map V.str))) W = some (.lst (WRA.map V.str ++ WRB.map V.str)) := upd_same
    have m0 : Same H (upd (upd (upd H w1 (.lst (WRA.map V.str))) w2 (.lst (WRB.map V.str))) W (.lst (WRA.map V.str ++ WRB.map V.str))) := (n1.trans n2).trans (same_new hW)
    revert eW m0
    show _ → _ → tSeq _ _ _ _ (upd (upd (upd H w1 (.lst (WRA.map V.str))) w2 (.lst (WRB.map V.str))) W (.lst (WRA.map V.str ++ WRB.map V.str)))
    generalize upd (upd (upd H w1 (.lst (WRA.map V.str))) w2 (.lst (WRB.map V.str))) W (.lst (WRA.map V.str ++ WRB.map V.str)) = HW
    intro eW m0
    refine ⟨_, rfl, a, _, _, _, decide (("NoDeck" : Str) = one), rfl, m0 _ _ hA, N.c, fun _ e => e, kitW N (x := "NoDeck") (by decide +kernel), _, rfl, a, _, _, _, decide (("NoDeed" : Str) = one), rfl, m0 _ _ hA, N.c, fun _ e => e, kitW N (x := "NoDeed") (by decide +kernel), _, rfl, a, _, _, _, decide (("NoLink" : Str) = one), rfl, m0 _ _ hA, N.c, fun _ e => e, kitW N (x := "NoLink") (by decide +kernel), _, rfl, a, _, _, _, decide (("NoMaster" : Str) = one), rfl, m0 _ _ hA, N.c, fun _ e => e, kitW N (x := "NoMaster") (by decide +kernel), (by show 4 ≤ sizeLine; decide), fun p0 hp0 => ?_⟩
    have x_p0 : (upd HW p0 (.lst [V.bl (decide (("NoDeck" : Str) = one)), V.bl (decide (("NoDeed" : Str) = one)), V.bl (decide (("NoLink" : Str) = one)), V.bl (decide (("NoMaster" : Str) = one))])) p0 = some (.lst [V.bl (decide (("NoDeck" : Str) = one)), V.bl (decide (("NoDeed" : Str) = one)), V.bl (decide (("NoLink" : Str) = one)), V.bl (decide (("NoMaster" : Str) = one))]) := upd_same
    have s_p0 : Same HW (upd HW p0 (.lst [V.bl (decide (("NoDeck" : Str) = one)), V.bl (decide (("NoDeed" : Str) = one)), V.bl (decide (("NoLink" : Str) = one)), V.bl (decide (("NoMaster" : Str) = one))])) := same_new hp0
    revert x_p0 s_p0
    generalize upd HW p0 (.lst [V.bl (decide (("NoDeck" : Str) = one)), V.bl (decide (("NoDeed" : Str) = one)), V.bl (decide (("NoLink" : Str) = one)), V.bl (decide (("NoMaster" : Str) = one))]) = H_p0
    intro x_p0 s_p0
    have m1 := m0.trans s_p0
    refine ⟨_, rfl, _, rfl, a, _, _, _, decide (("NoName" : Str) = one), rfl, m1 _ _ hA, N.c, fun _ e => e, kitW N (x := "NoName") (by decide +kernel), _, rfl, a, _, _, _, decide (("NoNumber" : Str) = one), rfl, m1 _ _ hA, N.c, fun _ e => e, kitW N (x := "NoNumber") (by decide +kernel), _, rfl, a, _, _, _, decide (("NoPlace" : Str) = one), rfl, m1 _ _ hA, N.c, fun _ e => e, kitW N (x := "NoPlace") (by decide +kernel), _, rfl, a, _, _, _, decide (("NoPress" : Str) = one), rfl, m1 _ _ hA, N.c, fun _ e => e, kitW N (x := "NoPress") (by decide +kernel), (by show 4 ≤ sizeLine; decide), fun p1 hp1 => ?_⟩
    have x_p1 : (upd H_p0 p1 (.lst [V.bl (decide (("NoName" : Str) = one)), V.bl (decide (("NoNumber" : Str) = one)), V.bl (decide (("NoPlace" : Str) = one)), V.bl (decide (("NoPress" : Str) = one))])) p1 = some (.lst [V.bl (decide (("NoName" : Str) = one)), V.bl (decide (("NoNumber" : Str) = one)), V.bl (decide (("NoPlace" : Str) = one)), V.bl (decide (("NoPress" : Str) = one))]) := upd_same
    have s_p1 : Same H_p0 (upd H_p0 p1 (.lst [V.bl (decide (("NoName" : Str) = one)), V.bl (decide (("NoNumber" : Str) = one)), V.bl (decide (("NoPlace" : Str) = one)), V.bl (decide (("NoPress" : Str) = one))])) := same_new hp1
    revert x_p1 s_p1
    generalize upd H_p0 p1 (.lst [V.bl (decide (("NoName" : Str) = one)), V.bl (decide (("NoNumber" : Str) = one)), V.bl (decide (("NoPlace" : Str) = one)), V.bl (decide (("NoPress" : Str) = one))]) = H_p1
    intro x_p1 s_p1
    refine ⟨_, _, _, _, rfl, rfl, s_p1 _ _ x_p0, x_p1, (by show 8 ≤ sizeLine; decide), fun r1 hr1 => ?_⟩
    have x_r1 : (upd H_p1 r1 (.lst ([V.bl (decide (("NoDeck" : Str) = one)), V.bl (decide (("NoDeed" : Str) = one)), V.bl (decide (("NoLink" : Str) = one)), V.bl (decide (("NoMaster" : Str) = one))] ++ [V.bl (decide (("NoName" : Str) = one)), V.bl (decide (("NoNumber" : Str) = one)), V.bl (decide (("NoPlace" : Str) = one)), V.bl (decide (("NoPress" : Str) = one))]))) r1 = some (.lst ([V.bl (decide (("NoDeck" : Str) = one)), V.bl (decide (("NoDeed" : Str) = one)), V.bl (decide (("NoLink" : Str) = one)), V.bl (decide (("NoMaster" : Str) = one))] ++ [V.bl (decide (("NoName" : Str) = one)), V.bl (decide (("NoNumber" : Str) = one)), V.bl (decide (("NoPlace" : Str) = one)), V.bl (decide (("NoPress" : Str) = one))])) := upd_same
    have s_r1 : Same H_p1 (upd H_p1 r1 (.lst ([V.bl (decide (("NoDeck" : Str) = one)), V.bl (decide (("NoDeed" : Str) = one)), V.bl (decide (("NoLink" : Str) = one)), V.bl (decide (("NoMaster" : Str) = one))] ++ [V.bl (decide (("NoName" : Str) = one)), V.bl (decide (("NoNumber" : Str) = one)), V.bl (decide (("NoPlace" : Str) = one)), V.bl (decide (("NoPress" : Str) = one))]))) := same_new hr1
    revert x_r1 s_r1
    generalize upd H_p1 r1 (.lst ([V.bl (decide (("NoDeck" : Str) = one)), V.bl (decide (("NoDeed" : Str) = one)), V.bl (decide (("NoLink" : Str) = one)), V.bl (decide (("NoMaster" : Str) = one))] ++ [V.bl (decide (("NoName" : Str) = one)), V.bl (decide (("NoNumber" : Str) = one)), V.bl (decide (("NoPlace" : Str) = one)), V.bl (decide (("NoPress" : Str) = one))])) = H_r1
    intro x_r1 s_r1
    have m2 := (m1.trans s_p1).trans s_r1
    refine ⟨_, rfl, _, rfl, a, _, _, _, decide (("NoRoom" : Str) = one), rfl, m2 _ _ hA, N.c, fun _ e => e, kitW N (x := "NoRoom") (by decide +kernel), _, rfl, a, _, _, _, decide (("NoRow" : Str) = one), rfl, m2 _ _ hA, N.c, fun _ e => e, kitW N (x := "NoRow") (by decide +kernel), _, rfl, a, _, _, _, decide (("NoSetting" : Str) = one), rfl, m2 _ _ hA, N.c, fun _ e => e, kitW N (x := "NoSetting") (by decide +kernel), _, rfl, a, _, _, _, decide (("NoShow" : Str) = one), rfl, m2 _ _ hA, N.c, fun _ e => e, kitW N (x := "NoShow") (by decide +kernel), (by show 4 ≤ sizeLine; decide), fun p2 hp2 => ?_⟩
    have x_p2 : (upd H_r1 p2 (.lst [V.bl (decide (("NoRoom" : Str) = one)), V.bl (decide (("NoRow" : Str) = one)), V.bl (decide (("NoSetting" : Str) = one)), V.bl (decide (("NoShow" : Str) = one))])) p2 = some (.lst [V.bl (decide (("NoRoom" : Str) = one)), V.bl (decide (("NoRow" : Str) = one)), V.bl (decide (("NoSetting" : Str) = one)), V.bl (decide (("NoShow" : Str) = one))]) := upd_same
    have s_p2 : Same H_r1 (upd H_r1 p2 (.lst [V.bl (decide (("NoRoom" : Str) = one)), V.bl (decide (("NoRow" : Str) = one)), V.bl (decide (("NoSetting" : Str) = one)), V.bl (decide (("NoShow" : Str) = one))])) := same_new hp2
    revert x_p2 s_p2
    generalize upd H_r1 p2 (.lst [V.bl (decide (("NoRoom" : Str) = one)), V.bl (decide (("NoRow" : Str) = one)), V.bl (decide (("NoSetting" : Str) = one)), V.bl (decide (("NoShow" : Str) = one))]) = H_p2
    intro x_p2 s_p2
    refine ⟨_, _, _, _, rfl, rfl, s_p2 _ _ x_r1, x_p2, (by show 12 ≤ sizeLine; decide), fun r2 hr2 => ?_⟩
    have x_r2 : (upd H_p2 r2 (.lst ([V.bl (decide (("NoDeck" : Str) = one)), V.bl (decide (("NoDeed" : Str) = one)), V.bl (decide (("NoLink" : Str) = one)), V.bl (decide (("NoMaster" : Str) = one))] ++ [V.bl (decide (("NoName" : Str) = one)), V.bl (decide (("NoNumber" : Str) = one)), V.bl (decide (("NoPlace" : Str) = one)), V.bl (decide (("NoPress" : Str) = one))] ++ [V.bl (decide (("NoRoom" : Str) = one)), V.bl (decide (("NoRow" : Str) = one)), V.bl (decide (("NoSetting" : Str) = one)), V.bl (decide (("NoShow" : Str) = one))]))) r2 = some (.lst ([V.bl (decide (("NoDeck" : Str) = one)), V.bl (decide (("NoDeed" : Str) = one)), V.bl (decide (("NoLink" : Str) = one)), V.bl (decide (("NoMaster" : Str) = one))] ++ [V.bl (decide (("NoName" : Str) = one)), V.bl (decide (("NoNumber" : Str) = one)), V.bl (decide (("NoPlace" : Str) = one)), V.bl (decide (("NoPress" : Str) = one))] ++ [V.bl (decide (("NoRoom" : Str) = one)), V.bl (decide (("NoRow" : Str) = one)), V.bl (decide (("NoSetting" : Str) = one)), V.bl (decide (("NoShow" : Str) = one))])) := upd_same
    have s_r2 : Same H_p2 (upd H_p2 r2 (.lst ([V.bl (decide (("NoDeck" : Str) = one)), V.bl (decide (("NoDeed" : Str) = one)), V.bl (decide (("NoLink" : Str) = one)), V.bl (decide (("NoMaster" : Str) = one))] ++ [V.bl (decide (("NoName" : Str) = one)), V.bl (decide (("NoNumber" : Str) = one)), V.bl (decide (("NoPlace" : Str) = one)), V.bl (decide (("NoPress" : Str) = one))] ++ [V.bl (decide (("NoRoom" : Str) = one)), V.bl (decide (("NoRow" : Str) = one)), V.bl (decide (("NoSetting" : Str) = one)), V.bl (decide (("NoShow" : Str) = one))]))) := same_new hr2
    revert x_r2 s_r2
    generalize upd H_p2 r2 (.lst ([V.bl (decide (("NoDeck" : Str) = one)), V.bl (decide (("NoDeed" : Str) = one)), V.bl (decide (("NoLink" : Str) = one)), V.bl (decide (("NoMaster" : Str) = one))] ++ [V.bl (decide (("NoName" : Str) = one)), V.bl (decide (("NoNumber" : Str) = one)), V.bl (decide (("NoPlace" : Str) = one)), V.bl (decide (("NoPress" : Str) = one))] ++ [V.bl (decide (("NoRoom" : Str) = one)), V.bl (decide (("NoRow" : Str) = one)), V.bl (decide (("NoSetting" : Str) = one)), V.bl (decide (("NoShow" : Str) = one))])) = H_r2
    intro x_r2 s_r2
    have m3 := (m2.trans s_p2).trans s_r2
    refine ⟨_, rfl, _, rfl, a, _, _, _, decide (("NoSlide" : Str) = one), rfl, m3 _ _ hA, N.c, fun _ e => e, kitW N (x := "NoSlide") (by decide +kernel), _, rfl, a, _, _, _, decide (("NoSteps" : Str) = one), rfl, m3 _ _ hA, N.c, fun _ e => e, kitW N (x := "NoSteps") (by decide +kernel), _, rfl, a, _, _, _, decide (("NoText" : Str) = one), rfl, m3 _ _ hA, N.c, fun _ e => e, kitW N (x := "NoText") (by decide +kernel), _, rfl, a, _, _, _, decide (("NoTime" : Str) = one), rfl, m3 _ _ hA, N.c, fun _ e => e, kitW N (x := "NoTime") (by decide +kernel), (by show 4 ≤ sizeLine; decide), fun p3 hp3 => ?_⟩
    have x_p3 : (upd H_r2 p3 (.lst [V.bl (decide (("NoSlide" : Str) = one)), V.bl (decide (("NoSteps" : Str) = one)), V.bl (decide (("NoText" : Str) = one)), V.bl (decide (("NoTime" : Str) = one))])) p3 = some (.lst [V.bl (decide (("NoSlide" : Str) = one)), V.bl (decide (("NoSteps" : Str) = one)), V.bl (decide (("NoText" : Str) = one)), V.bl (decide (("NoTime" : Str) = one))]) := upd_same
    have s_p3 : Same H_r2 (upd H_r2 p3 (.lst [V.bl (decide (("NoSlide" : Str) = one)), V.bl (decide (("NoSteps" : Str) = one)), V.bl (decide (("NoText" : Str) = one)), V.bl (decide (("NoTime" : Str) = one))])) := same_new hp3
    revert x_p3 s_p3
    generalize upd H_r2 p3 (.lst [V.bl (decide (("NoSlide" : Str) = one)), V.bl (decide (("NoSteps" : Str) = one)), V.bl (decide (("NoText" : Str) = one)), V.bl (decide (("NoTime" : Str) = one))]) = H_p3
    intro x_p3 s_p3
    refine ⟨_, _, _, _, rfl, rfl, s_p3 _ _ x_r2, x_p3, (by show 16 ≤ sizeLine; decide), fun r3 hr3 => ?_⟩
    have x_r3 : (upd H_p3 r3 (.lst ([V.bl (decide (("NoDeck" : Str) = one)), V.bl (decide (("NoDeed" : Str) = one)), V.bl (decide (("NoLink" : Str) = one)), V.bl (decide (("NoMaster" : Str) = one))] ++ [V.bl (decide (("NoName" : Str) = one)), V.bl (decide (("NoNumber" : Str) = one)), V.bl (decide (("NoPlace" : Str) = one)), V.bl (decide (("NoPress" : Str) = one))] ++ [V.bl (decide (("NoRoom" : Str) = one)), V.bl (decide (("NoRow" : Str) = one)), V.bl (decide (("NoSetting" : Str) = one)), V.bl (decide (("NoShow" : Str) = one))] ++ [V.bl (decide (("NoSlide" : Str) = one)), V.bl (decide (("NoSteps" : Str) = one)), V.bl (decide (("NoText" : Str) = one)), V.bl (decide (("NoTime" : Str) = one))]))) r3 = some (.lst ([V.bl (decide (("NoDeck" : Str) = one)), V.bl (decide (("NoDeed" : Str) = one)), V.bl (decide (("NoLink" : Str) = one)), V.bl (decide (("NoMaster" : Str) = one))] ++ [V.bl (decide (("NoName" : Str) = one)), V.bl (decide (("NoNumber" : Str) = one)), V.bl (decide (("NoPlace" : Str) = one)), V.bl (decide (("NoPress" : Str) = one))] ++ [V.bl (decide (("NoRoom" : Str) = one)), V.bl (decide (("NoRow" : Str) = one)), V.bl (decide (("NoSetting" : Str) = one)), V.bl (decide (("NoShow" : Str) = one))] ++ [V.bl (decide (("NoSlide" : Str) = one)), V.bl (decide (("NoSteps" : Str) = one)), V.bl (decide (("NoText" : Str) = one)), V.bl (decide (("NoTime" : Str) = one))])) := upd_same
    have s_r3 : Same H_p3 (upd H_p3 r3 (.lst ([V.bl (decide (("NoDeck" : Str) = one)), V.bl (decide (("NoDeed" : Str) = one)), V.bl (decide (("NoLink" : Str) = one)), V.bl (decide (("NoMaster" : Str) = one))] ++ [V.bl (decide (("NoName" : Str) = one)), V.bl (decide (("NoNumber" : Str) = one)), V.bl (decide (("NoPlace" : Str) = one)), V.bl (decide (("NoPress" : Str) = one))] ++ [V.bl (decide (("NoRoom" : Str) = one)), V.bl (decide (("NoRow" : Str) = one)), V.bl (decide (("NoSetting" : Str) = one)), V.bl (decide (("NoShow" : Str) = one))] ++ [V.bl (decide (("NoSlide" : Str) = one)), V.bl (decide (("NoSteps" : Str) = one)), V.bl (decide (("NoText" : Str) = one)), V.bl (decide (("NoTime" : Str) = one))]))) := same_new hr3
    revert x_r3 s_r3
    generalize upd H_p3 r3 (.lst ([V.bl (decide (("NoDeck" : Str) = one)), V.bl (decide (("NoDeed" : Str) = one)), V.bl (decide (("NoLink" : Str) = one)), V.bl (decide (("NoMaster" : Str) = one))] ++ [V.bl (decide (("NoName" : Str) = one)), V.bl (decide (("NoNumber" : Str) = one)), V.bl (decide (("NoPlace" : Str) = one)), V.bl (decide (("NoPress" : Str) = one))] ++ [V.bl (decide (("NoRoom" : Str) = one)), V.bl (decide (("NoRow" : Str) = one)), V.bl (decide (("NoSetting" : Str) = one)), V.bl (decide (("NoShow" : Str) = one))] ++ [V.bl (decide (("NoSlide" : Str) = one)), V.bl (decide (("NoSteps" : Str) = one)), V.bl (decide (("NoText" : Str) = one)), V.bl (decide (("NoTime" : Str) = one))])) = H_r3
    intro x_r3 s_r3
    have m4 := (m3.trans s_p3).trans s_r3
    refine ⟨_, rfl, _, rfl, a, _, _, _, decide (("NoTrait" : Str) = one), rfl, m4 _ _ hA, N.c, fun _ e => e, kitW N (x := "NoTrait") (by decide +kernel), _, rfl, a, _, _, _, decide (("NoWord" : Str) = one), rfl, m4 _ _ hA, N.c, fun _ e => e, kitW N (x := "NoWord") (by decide +kernel), _, rfl, a, _, _, _, decide (("NoWorth" : Str) = one), rfl, m4 _ _ hA, N.c, fun _ e => e, kitW N (x := "NoWorth") (by decide +kernel), _, rfl, a, _, _, _, decide (("Ring" : Str) = one), rfl, m4 _ _ hA, N.c, fun _ e => e, kitW N (x := "Ring") (by decide +kernel), (by show 4 ≤ sizeLine; decide), fun p4 hp4 => ?_⟩
    have x_p4 : (upd H_r3 p4 (.lst [V.bl (decide (("NoTrait" : Str) = one)), V.bl (decide (("NoWord" : Str) = one)), V.bl (decide (("NoWorth" : Str) = one)), V.bl (decide (("Ring" : Str) = one))])) p4 = some (.lst [V.bl (decide (("NoTrait" : Str) = one)), V.bl (decide (("NoWord" : Str) = one)), V.bl (decide (("NoWorth" : Str) = one)), V.bl (decide (("Ring" : Str) = one))]) := upd_same
    have s_p4 : Same H_r3 (upd H_r3 p4 (.lst [V.bl (decide (("NoTrait" : Str) = one)), V.bl (decide (("NoWord" : Str) = one)), V.bl (decide (("NoWorth" : Str) = one)), V.bl (decide (("Ring" : Str) = one))])) := same_new hp4
    revert x_p4 s_p4
    generalize upd H_r3 p4 (.lst [V.bl (decide (("NoTrait" : Str) = one)), V.bl (decide (("NoWord" : Str) = one)), V.bl (decide (("NoWorth" : Str) = one)), V.bl (decide (("Ring" : Str) = one))]) = H_p4
    intro x_p4 s_p4
    refine ⟨_, _, _, _, rfl, rfl, s_p4 _ _ x_r3, x_p4, (by show 20 ≤ sizeLine; decide), fun r4 hr4 => ?_⟩
    have x_r4 : (upd H_p4 r4 (.lst ([V.bl (decide (("NoDeck" : Str) = one)), V.bl (decide (("NoDeed" : Str) = one)), V.bl (decide (("NoLink" : Str) = one)), V.bl (decide (("NoMaster" : Str) = one))] ++ [V.bl (decide (("NoName" : Str) = one)), V.bl (decide (("NoNumber" : Str) = one)), V.bl (decide (("NoPlace" : Str) = one)), V.bl (decide (("NoPress" : Str) = one))] ++ [V.bl (decide (("NoRoom" : Str) = one)), V.bl (decide (("NoRow" : Str) = one)), V.bl (decide (("NoSetting" : Str) = one)), V.bl (decide (("NoShow" : Str) = one))] ++ [V.bl (decide (("NoSlide" : Str) = one)), V.bl (decide (("NoSteps" : Str) = one)), V.bl (decide (("NoText" : Str) = one)), V.bl (decide (("NoTime" : Str) = one))] ++ [V.bl (decide (("NoTrait" : Str) = one)), V.bl (decide (("NoWord" : Str) = one)), V.bl (decide (("NoWorth" : Str) = one)), V.bl (decide (("Ring" : Str) = one))]))) r4 = some (.lst ([V.bl (decide (("NoDeck" : Str) = one)), V.bl (decide (("NoDeed" : Str) = one)), V.bl (decide (("NoLink" : Str) = one)), V.bl (decide (("NoMaster" : Str) = one))] ++ [V.bl (decide (("NoName" : Str) = one)), V.bl (decide (("NoNumber" : Str) = one)), V.bl (decide (("NoPlace" : Str) = one)), V.bl (decide (("NoPress" : Str) = one))] ++ [V.bl (decide (("NoRoom" : Str) = one)), V.bl (decide (("NoRow" : Str) = one)), V.bl (decide (("NoSetting" : Str) = one)), V.bl (decide (("NoShow" : Str) = one))] ++ [V.bl (decide (("NoSlide" : Str) = one)), V.bl (decide (("NoSteps" : Str) = one)), V.bl (decide (("NoText" : Str) = one)), V.bl (decide (("NoTime" : Str) = one))] ++ [V.bl (decide (("NoTrait" : Str) = one)), V.bl (decide (("NoWord" : Str) = one)), V.bl (decide (("NoWorth" : Str) = one)), V.bl (decide (("Ring" : Str) = one))])) := upd_same
    have s_r4 : Same H_p4 (upd H_p4 r4 (.lst ([V.bl (decide (("NoDeck" : Str) = one)), V.bl (decide (("NoDeed" : Str) = one)), V.bl (decide (("NoLink" : Str) = one)), V.bl (decide (("NoMaster" : Str) = one))] ++ [V.bl (decide (("NoName" : Str) = one)), V.bl (decide (("NoNumber" : Str) = one)), V.bl (decide (("NoPlace" : Str) = one)), V.bl (decide (("NoPress" : Str) = one))] ++ [V.bl (decide (("NoRoom" : Str) = one)), V.bl (decide (("NoRow" : Str) = one)), V.bl (decide (("NoSetting" : Str) = one)), V.bl (decide (("NoShow" : Str) = one))] ++ [V.bl (decide (("NoSlide" : Str) = one)), V.bl (decide (("NoSteps" : Str) = one)), V.bl (decide (("NoText" : Str) = one)), V.bl (decide (("NoTime" : Str) = one))] ++ [V.bl (decide (("NoTrait" : Str) = one)), V.bl (decide (("NoWord" : Str) = one)), V.bl (decide (("NoWorth" : Str) = one)), V.bl (decide (("Ring" : Str) = one))]))) := same_new hr4
    revert x_r4 s_r4
    generalize upd H_p4 r4 (.lst ([V.bl (decide (("NoDeck" : Str) = one)), V.bl (decide (("NoDeed" : Str) = one)), V.bl (decide (("NoLink" : Str) = one)), V.bl (decide (("NoMaster" : Str) = one))] ++ [V.bl (decide (("NoName" : Str) = one)), V.bl (decide (("NoNumber" : Str) = one)), V.bl (decide (("NoPlace" : Str) = one)), V.bl (decide (("NoPress" : Str) = one))] ++ [V.bl (decide (("NoRoom" : Str) = one)), V.bl (decide (("NoRow" : Str) = one)), V.bl (decide (("NoSetting" : Str) = one)), V.bl (decide (("NoShow" : Str) = one))] ++ [V.bl (decide (("NoSlide" : Str) = one)), V.bl (decide (("NoSteps" : Str) = one)), V.bl (decide (("NoText" : Str) = one)), V.bl (decide (("NoTime" : Str) = one))] ++ [V.bl (decide (("NoTrait" : Str) = one)), V.bl (decide (("NoWord" : Str) = one)), V.bl (decide (("NoWorth" : Str) = one)), V.bl (decide (("Ring" : Str) = one))])) = H_r4
    intro x_r4 s_r4
    have m5 := (m4.trans s_p4).trans s_r4
    refine ⟨_, rfl, _, rfl, a, _, _, _, decide (("Taken" : Str) = one), rfl, m5 _ _ hA, N.c, fun _ e => e, kitW N (x := "Taken") (by decide +kernel), _, rfl, a, _, _, _, decide (("TooMany" : Str) = one), rfl, m5 _ _ hA, N.c, fun _ e => e, kitW N (x := "TooMany") (by decide +kernel), _, rfl, a, _, _, _, decide (("Used" : Str) = one), rfl, m5 _ _ hA, N.c, fun _ e => e, kitW N (x := "Used") (by decide +kernel), (by show 3 ≤ sizeLine; decide), fun p5 hp5 => ?_⟩
    have x_p5 : (upd H_r4 p5 (.lst [V.bl (decide (("Taken" : Str) = one)), V.bl (decide (("TooMany" : Str) = one)), V.bl (decide (("Used" : Str) = one))])) p5 = some (.lst [V.bl (decide (("Taken" : Str) = one)), V.bl (decide (("TooMany" : Str) = one)), V.bl (decide (("Used" : Str) = one))]) := upd_same
    have s_p5 : Same H_r4 (upd H_r4 p5 (.lst [V.bl (decide (("Taken" : Str) = one)), V.bl (decide (("TooMany" : Str) = one)), V.bl (decide (("Used" : Str) = one))])) := same_new hp5
    revert x_p5 s_p5
    generalize upd H_r4 p5 (.lst [V.bl (decide (("Taken" : Str) = one)), V.bl (decide (("TooMany" : Str) = one)), V.bl (decide (("Used" : Str) = one))]) = H_p5
    intro x_p5 s_p5
    refine ⟨_, _, _, _, rfl, rfl, s_p5 _ _ x_r4, x_p5, (by show 23 ≤ sizeLine; decide), fun r5 hr5 => ?_⟩
    have x_r5 : (upd H_p5 r5 (.lst ([V.bl (decide (("NoDeck" : Str) = one)), V.bl (decide (("NoDeed" : Str) = one)), V.bl (decide (("NoLink" : Str) = one)), V.bl (decide (("NoMaster" : Str) = one))] ++ [V.bl (decide (("NoName" : Str) = one)), V.bl (decide (("NoNumber" : Str) = one)), V.bl (decide (("NoPlace" : Str) = one)), V.bl (decide (("NoPress" : Str) = one))] ++ [V.bl (decide (("NoRoom" : Str) = one)), V.bl (decide (("NoRow" : Str) = one)), V.bl (decide (("NoSetting" : Str) = one)), V.bl (decide (("NoShow" : Str) = one))] ++ [V.bl (decide (("NoSlide" : Str) = one)), V.bl (decide (("NoSteps" : Str) = one)), V.bl (decide (("NoText" : Str) = one)), V.bl (decide (("NoTime" : Str) = one))] ++ [V.bl (decide (("NoTrait" : Str) = one)), V.bl (decide (("NoWord" : Str) = one)), V.bl (decide (("NoWorth" : Str) = one)), V.bl (decide (("Ring" : Str) = one))] ++ [V.bl (decide (("Taken" : Str) = one)), V.bl (decide (("TooMany" : Str) = one)), V.bl (decide (("Used" : Str) = one))]))) r5 = some (.lst ([V.bl (decide (("NoDeck" : Str) = one)), V.bl (decide (("NoDeed" : Str) = one)), V.bl (decide (("NoLink" : Str) = one)), V.bl (decide (("NoMaster" : Str) = one))] ++ [V.bl (decide (("NoName" : Str) = one)), V.bl (decide (("NoNumber" : Str) = one)), V.bl (decide (("NoPlace" : Str) = one)), V.bl (decide (("NoPress" : Str) = one))] ++ [V.bl (decide (("NoRoom" : Str) = one)), V.bl (decide (("NoRow" : Str) = one)), V.bl (decide (("NoSetting" : Str) = one)), V.bl (decide (("NoShow" : Str) = one))] ++ [V.bl (decide (("NoSlide" : Str) = one)), V.bl (decide (("NoSteps" : Str) = one)), V.bl (decide (("NoText" : Str) = one)), V.bl (decide (("NoTime" : Str) = one))] ++ [V.bl (decide (("NoTrait" : Str) = one)), V.bl (decide (("NoWord" : Str) = one)), V.bl (decide (("NoWorth" : Str) = one)), V.bl (decide (("Ring" : Str) = one))] ++ [V.bl (decide (("Taken" : Str) = one)), V.bl (decide (("TooMany" : Str) = one)), V.bl (decide (("Used" : Str) = one))])) := upd_same
    have s_r5 : Same H_p5 (upd H_p5 r5 (.lst ([V.bl (decide (("NoDeck" : Str) = one)), V.bl (decide (("NoDeed" : Str) = one)), V.bl (decide (("NoLink" : Str) = one)), V.bl (decide (("NoMaster" : Str) = one))] ++ [V.bl (decide (("NoName" : Str) = one)), V.bl (decide (("NoNumber" : Str) = one)), V.bl (decide (("NoPlace" : Str) = one)), V.bl (decide (("NoPress" : Str) = one))] ++ [V.bl (decide (("NoRoom" : Str) = one)), V.bl (decide (("NoRow" : Str) = one)), V.bl (decide (("NoSetting" : Str) = one)), V.bl (decide (("NoShow" : Str) = one))] ++ [V.bl (decide (("NoSlide" : Str) = one)), V.bl (decide (("NoSteps" : Str) = one)), V.bl (decide (("NoText" : Str) = one)), V.bl (decide (("NoTime" : Str) = one))] ++ [V.bl (decide (("NoTrait" : Str) = one)), V.bl (decide (("NoWord" : Str) = one)), V.bl (decide (("NoWorth" : Str) = one)), V.bl (decide (("Ring" : Str) = one))] ++ [V.bl (decide (("Taken" : Str) = one)), V.bl (decide (("TooMany" : Str) = one)), V.bl (decide (("Used" : Str) = one))]))) := same_new hr5
    revert x_r5 s_r5
    generalize upd H_p5 r5 (.lst ([V.bl (decide (("NoDeck" : Str) = one)), V.bl (decide (("NoDeed" : Str) = one)), V.bl (decide (("NoLink" : Str) = one)), V.bl (decide (("NoMaster" : Str) = one))] ++ [V.bl (decide (("NoName" : Str) = one)), V.bl (decide (("NoNumber" : Str) = one)), V.bl (decide (("NoPlace" : Str) = one)), V.bl (decide (("NoPress" : Str) = one))] ++ [V.bl (decide (("NoRoom" : Str) = one)), V.bl (decide (("NoRow" : Str) = one)), V.bl (decide (("NoSetting" : Str) = one)), V.bl (decide (("NoShow" : Str) = one))] ++ [V.bl (decide (("NoSlide" : Str) = one)), V.bl (decide (("NoSteps" : Str) = one)), V.bl (decide (("NoText" : Str) = one)), V.bl (decide (("NoTime" : Str) = one))] ++ [V.bl (decide (("NoTrait" : Str) = one)), V.bl (decide (("NoWord" : Str) = one)), V.bl (decide (("NoWorth" : Str) = one)), V.bl (decide (("Ring" : Str) = one))] ++ [V.bl (decide (("Taken" : Str) = one)), V.bl (decide (("TooMany" : Str) = one)), V.bl (decide (("Used" : Str) = one))])) = H_r5
    intro x_r5 s_r5
    have m6 := (m5.trans s_p5).trans s_r5
    have eW := ((((((((((s_p0.trans s_p1).trans s_r1).trans s_p2).trans s_r2).trans s_p3).trans s_r3).trans s_p4).trans s_r4).trans s_p5).trans s_r5) _ _ eW
    have xs : H_r5 r5 = some (.lst (CLS.map (fl one))) := x_r5
    clear x_r5 x_r4 x_r3 x_r2 x_r1 x_p0 x_p1 x_p2 x_p3 x_p4 x_p5
    obtain ⟨c1, c2, c3, _, c5⟩ := fl_facts one N.m
    have c4 := fl_not N.m
    revert xs c1 c2 c3 c4
    generalize CLS.map (fl one) = bs
    intro xs c1 c2 c3 c4
    refine ⟨_, rfl, .inl ⟨rfl, _, SqL.of xs⟩, r5, bs, .bl true, rfl, rfl, SqL.of xs, rfl, c2, ?_⟩
    rw [c1]
    refine ⟨rfl, _, rfl, iteF ?_⟩
    refine ⟨_, rfl, a, _, .ty "ValueError", .type "ValueError", true, rfl, m6 _ _ hA, N.c, fun _ e => e, N.kv, _, rfl, iteF ?_⟩
    refine ⟨_, rfl, _, rfl, .inl ⟨rfl, _, SqL.of xs⟩, r5, bs, .bl true, rk one CLS, .bl true, rfl, rfl, SqL.of xs, rfl, c2, c3, rfl, c4, ?_⟩
    refine ⟨W, _, _, .str (wordOf one), rfl, rfl, SqL.of eW, at_any (j := rk one CLS) rfl ?_, q _ m6⟩
    rw [← List.map_append, List.getElem?_map, c5] <;> rfl

/-! ### what is told or refused -/
def toldW (ms : List MaM) (n y t : V) (c : Int) : Str := match fndV ms n with
  | none => "master"
  | some m => if c = 0 then "told" else if c = 1 then "told" else if saidV (chn ms m.name) y = [] then "place" else if c = 2 then "told" else if traitV t = true then "told" else "trait"
theorem wo_master : wordOf "NoMaster" = "master" := by decide +kernel
theorem wo_place : wordOf "NoPlace" = "place" := by decide +kernel
theorem wo_trait : wordOf "NoTrait" = "trait" := by decide +kernel
def spTold (K : PySem.W.Frag) (P' : Addr) : Sp := fun vs H Q _ => ∃ (c : Int) (v n y t : V) (ms : List MaM), vs = [.int c, v, n, y, t] ∧ Dp K H v (.tuple (ms.map MaM.d)) ∧ OkMs ms ∧ Ok1 H n ∧ Ok1 H y ∧ Ok1 H t ∧ TabG H P' ∧ ∀ H', Tk P' H H' → Q (.str (toldW ms n y t c)) H'
theorem ok_told {f : Addr} {fd : FuncData} {P' : Addr} (F : FnP K "_law_told" slaw_told f fd) (T : Txt mg) (gD : mg "DeckError" = some (.ref (He.ga K "DeckError"))) (N1 : ErW K mg "NoMaster") (N2 : ErW K mg "NoPlace") (N3 : ErW K mg "NoTrait")
    (D_chain_of : DnS P w K mg base 4 "chain_of" ["masters", "name"] (spMsR K P' RNms)) (D_places_of : DnS P w K mg base 4 "places_of" ["masters", "name"] (spMsR K P' RThere)) (D_text_by : DnS P w K mg base 5 "text_by" ["masters", "name", "place"] (spTBy K P')) (D_worth_by : DnS P w K mg base 5 "worth_by" ["masters", "name", "place", "trait"] (spWBy K P'))
    (D_law_word : Dn P w K mg base 1 "_law_word" ["e"] (spWord K mg)) : FnOk P w K mg base CX0 6 f fd ["way", "masters", "name", "place", "trait"] (spTold K P') := by
  refine okN F sclaw_told (fun vs H Q E h => ?_) (fun cdv A outer s H vs Q E hr h => ?_)
  · obtain ⟨c, v, n, y, t, ms, rfl, _⟩ := h
    rfl
  · obtain ⟨c, v, n, y, t, ms, rfl, hv, ok, hn, hy, ht, hG, q⟩ := h
    refine ⟨_, (pss_cons (ps_set (i := 5) sclaw_told.nd rfl (Or.inl rfl) pe_non)
      (pss_cons (ps_try_hold (i := 6) (tb := fun W => (tIfS _ (tDrop (tCallS (spMsR K P' RNms) (WE W) _)) (tIfS _ (tDrop (tCallS (spMsR K P' RThere) (WE W) _)) (tIfS _ (tDrop (tCallS (spTBy K P') (WE W) _)) (tDrop (tCallS (spWBy K P') (WE W) _)))))) (ts := fun a cls d => tAsg (tVar 6) (gName 5)) (Wout := fun _ _ _ _ => False) rfl rfl rfl sclaw_told.nd rfl rfl ⟨rfl, by decide, .inl gD⟩ LamX.takes0 (fun W pn xe tk _ => (pss_one (ps_if (pt_cmpR op_eq (pv 0) pe_int (nomark _)) (pss_one (ps_expr (pe_dnS D_chain_of (hr.mono (by decide)) rfl (fun σ => passAt tk σ) (pa_cons (pv 1) (pa_cons (pv 2) pa_nil))))) (pss_one (ps_if (pt_cmpR op_eq (pv 0) pe_int (nomark _)) (pss_one (ps_expr (pe_dnS D_places_of (hr.mono (by decide)) rfl (fun σ => passAt tk σ) (pa_cons (pv 1) (pa_cons (pv 2) pa_nil))))) (pss_one (ps_if (pt_cmpR op_eq (pv 0) pe_int (nomark _)) (pss_one (ps_expr (pe_dnS D_text_by (hr.mono (by decide)) rfl (fun σ => passAt tk σ) (pa_cons (pv 1) (pa_cons (pv 2) (pa_cons (pv 3) pa_nil)))))) (pss_one (ps_expr (pe_dnS D_worth_by (hr.mono (by decide)) rfl (fun σ => passAt tk σ) (pa_cons (pv 1) (pa_cons (pv 2) (pa_cons (pv 3) (pa_cons (pv 4) pa_nil)))))))))))))) (fun a oe cls d pn hz hf => (pss_one (ps_set (i := 5) sclaw_told.nd rfl (Or.inl rfl) (pv 6)))))
      (pss_one (ps_ret (pe_ifExp (pt_cmpR op_isN (pv 5) pe_non (nomark _)) pe_str (pe_dn D_law_word (hr.mono (by decide)) rfl (pa_cons (pv 5) pa_nil))))))), ?_⟩
    refine ⟨_, rfl, rfl, _, rfl, iteB (fun h0 => ?_) fun h0 => ?_⟩
    · have e0 : c = 0 := V.int.inj (of_decide_eq_true h0)
      refine ⟨_, rfl, _, rfl, v, n, ms, rfl, hv, ok, hn, hG, fun m hm D H1 tk hD _ => ?_, fun hm H1 tk => ?_⟩
      · refine ⟨_, rfl, rfl, _, rfl, iteT ?_⟩
        have q := q _ tk
        rw [show toldW ms n y t c = "told" from by unfold toldW; rw [hm]; exact if_pos e0] at q
        exact q
      · refine ⟨true, N1.e, fun _ a ha => ?_, fun z => nomatch z⟩
        refine ⟨_, rfl, _, rfl, rfl, _, rfl, iteF ⟨_, rfl, a, "NoMaster", rfl, N1, upd_same, fun H' s' => ?_⟩⟩
        have q := q H' (tk.trans (Tk.same tk.1 ((same_new ha).trans s')))
        rw [show toldW ms n y t c = "master" from by unfold toldW; rw [hm]] at q
        rw [wo_master]
        exact q
    · have e0 : ¬ c = 0 := fun e => of_decide_eq_false h0 (by rw [e])
      refine ⟨_, rfl, rfl, _, rfl, iteB (fun h1 => ?_) fun h1 => ?_⟩
      · have e1 : c = 1 := V.int.inj (of_decide_eq_true h1)
        refine ⟨_, rfl, _, rfl, v, n, ms, rfl, hv, ok, hn, hG, fun m hm D H1 tk hD _ => ?_, fun hm H1 tk => ?_⟩
        · refine ⟨_, rfl, rfl, _, rfl, iteT ?_⟩
          have q := q _ tk
          rw [show toldW ms n y t c = "told" from by unfold toldW; rw [hm]; exact (if_neg e0).trans (if_pos e1)] at q
          exact q
        · refine ⟨true, N1.e, fun _ a ha => ?_, fun z => nomatch z⟩
          refine ⟨_, rfl, _, rfl, rfl, _, rfl, iteF ⟨_, rfl, a, "NoMaster", rfl, N1, upd_same, fun H' s' => ?_⟩⟩
          have q := q H' (tk.trans (Tk.same tk.1 ((same_new ha).trans s')))
          rw [show toldW ms n y t c = "master" from by unfold toldW; rw [hm]] at q
          rw [wo_master]
          exact q
      · have e1 : ¬ c = 1 := fun e => of_decide_eq_false h1 (by rw [e])
        refine ⟨_, rfl, rfl, _, rfl, iteB (fun h2 => ?_) fun h2 => ?_⟩
        · have e2 : c = 2 := V.int.inj (of_decide_eq_true h2)
          refine ⟨_, rfl, _, rfl, _, rfl, v, n, y, ms, rfl, hv, ok, hn, hy, hG, fun hm H1 tk => ?_, fun m hm hs H1 tk => ?_, fun m hm hs u H1 tk hu => ?_⟩
          · refine ⟨true, N1.e, fun _ a ha => ?_, fun z => nomatch z⟩
            refine ⟨_, rfl, _, rfl, rfl, _, rfl, iteF ⟨_, rfl, a, "NoMaster", rfl, N1, upd_same, fun H' s' => ?_⟩⟩
            have q := q H' (tk.trans (Tk.same tk.1 ((same_new ha).trans s')))
            rw [show toldW ms n y t c = "master" from by unfold toldW; rw [hm]] at q
            rw [wo_master]
            exact q
          · refine ⟨true, N2.e, fun _ a ha => ?_, fun z => nomatch z⟩
            refine ⟨_, rfl, _, rfl, rfl, _, rfl, iteF ⟨_, rfl, a, "NoPlace", rfl, N2, upd_same, fun H' s' => ?_⟩⟩
            have q := q H' (tk.trans (Tk.same tk.1 ((same_new ha).trans s')))
            rw [show toldW ms n y t c = "place" from by unfold toldW; rw [hm]; exact (if_neg e0).trans ((if_neg e1).trans (if_pos hs))] at q
            rw [wo_place]
            exact q
          · refine ⟨_, rfl, rfl, _, rfl, iteT ?_⟩
            have q := q _ tk
            rw [show toldW ms n y t c = "told" from by unfold toldW; rw [hm]; exact (if_neg e0).trans ((if_neg e1).trans ((if_neg hs).trans (if_pos e2)))] at q
            exact q
        · have e2 : ¬ c = 2 := fun e => of_decide_eq_false h2 (by rw [e])
          refine ⟨_, rfl, _, rfl, _, rfl, _, rfl, v, n, y, t, ms, rfl, hv, ok, hn, hy, ht, hG, fun hm H1 tk => ?_, fun m hm hs H1 tk => ?_, fun m hm hs hb H1 tk => ?_, fun m z hm hs ez mz u H1 tk hu => ?_⟩
          · refine ⟨true, N1.e, fun _ a ha => ?_, fun z => nomatch z⟩
            refine ⟨_, rfl, _, rfl, rfl, _, rfl, iteF ⟨_, rfl, a, "NoMaster", rfl, N1, upd_same, fun H' s' => ?_⟩⟩
            have q := q H' (tk.trans (Tk.same tk.1 ((same_new ha).trans s')))
            rw [show toldW ms n y t c = "master" from by unfold toldW; rw [hm]] at q
            rw [wo_master]
            exact q
          · refine ⟨true, N2.e, fun _ a ha => ?_, fun z => nomatch z⟩
            refine ⟨_, rfl, _, rfl, rfl, _, rfl, iteF ⟨_, rfl, a, "NoPlace", rfl, N2, upd_same, fun H' s' => ?_⟩⟩
            have q := q H' (tk.trans (Tk.same tk.1 ((same_new ha).trans s')))
            rw [show toldW ms n y t c = "place" from by unfold toldW; rw [hm]; exact (if_neg e0).trans ((if_neg e1).trans (if_pos hs))] at q
            rw [wo_place]
            exact q
          · refine ⟨true, N3.e, fun _ a ha => ?_, fun z => nomatch z⟩
            refine ⟨_, rfl, _, rfl, rfl, _, rfl, iteF ⟨_, rfl, a, "NoTrait", rfl, N3, upd_same, fun H' s' => ?_⟩⟩
            have q := q H' (tk.trans (Tk.same tk.1 ((same_new ha).trans s')))
            rw [show toldW ms n y t c = "trait" from by unfold toldW; rw [hm]; exact (if_neg e0).trans ((if_neg e1).trans ((if_neg hs).trans ((if_neg e2).trans (if_neg (by rw [hb]; decide)))))] at q
            rw [wo_trait]
            exact q
          · refine ⟨_, rfl, rfl, _, rfl, iteT ?_⟩
            have q := q _ tk
            rw [show toldW ms n y t c = "told" from by unfold toldW; rw [hm]; exact (if_neg e0).trans ((if_neg e1).trans ((if_neg hs).trans ((if_neg e2).trans (if_pos (by rw [ez]; exact trait_true mz)))))] at q
            exact q

end
end K7

set_option Elab.async false
set_option linter.all false
set_option maxRecDepth 100000
set_option maxHeartbeats 2000000
namespace K7
open PySem PySem.Spec PyProof.Rows L2 GxR Gx Gd Gn Gm Gc Gk Gw Gt
abbrev slaw : Stmt := top 60
theorem sclaw : FnScope ["script", "pen", "pool", "masters", "names", "k", "name", "there", "strange", "some", "bad", "place", "odd", "wrong", "at", "asked", "due", "master", "one", "way"] ["script"] (defScope slaw) := ⟨rfl, rfl, rfl, by decide +kernel, rfl, by decide +kernel, by decide +kernel⟩
section
variable {P : Program} {w : World} {K : PySem.W.Frag} {mg : Str → Option Value} {base : Heap}
/-! ### the law -/
def spLaw (K : PySem.W.Frag) (P' : Addr) : Sp := fun vs H Q _ => ∃ (a : Addr) (ns : List Int), vs = [.ref a] ∧ SqL K H a (ns.map V.int) ∧ ns.length ≤ 63 ∧ TabG H P' ∧ ∀ H', Q (.bl true) H'
def TOLD4 : List Str := ["told", "told", "told", "told"]
def due7 (ms : List MaM) (z : Str) (x : V) (i : Nat) : List Str := if i % 2 = 1 then ["master", "master", "master", "master"] else if keepV (there ms z) x = true then ["told", "told", "place", "place"] else if 4 ≤ i then ["told", "told", "told", "trait"] else ["told", "told", "told", "told"]
theorem due7_ok {ms : List MaM} {o : MaM} {x1 x2 x3 bad : V} {i : Nat} (ho : fnd ms o.name = some o) (nobad : fndV ms bad = none) (h1 : (x1 = .str o.name ∧ i % 2 = 0) ∨ (x1 = bad ∧ i % 2 = 1)) (h3 : (traitV x3 = true ∧ i < 4) ∨ (traitV x3 = false ∧ 4 ≤ i)) :
    [toldW ms x1 x2 x3 0, toldW ms x1 x2 x3 1, toldW ms x1 x2 x3 2, toldW ms x1 x2 x3 3] = due7 ms o.name x2 i := by
  unfold due7
  rcases h1 with ⟨rfl, e⟩ | ⟨rfl, e⟩
  · rw [if_neg (by omega)]
    have hm : fndV ms (.str o.name) = some o := ho
    cases hk : keepV (there ms o.name) x2 with
    | true =>
      rw [if_pos rfl]
      unfold toldW
      rw [hm]
      simp [keep_said hk]
    | false =>
      rw [if_neg (by decide)]
      have hs : saidV (chn ms o.name) x2 ≠ [] := by
        unfold keepV at hk
        rw [Bool.or_eq_false_iff, Bool.not_eq_false', Bool.not_eq_false'] at hk
        obtain ⟨y, rfl⟩ : ∃ y, x2 = .str y := by cases x2 <;> first | exact ⟨_, rfl⟩ | cases hk.1
        rw [inV_strs] at hk
        exact (there_said (of_decide_eq_true hk.2)).1
      unfold toldW
      rw [hm]
      rcases h3 with ⟨ht, hi⟩ | ⟨ht, hi⟩
      · simp [hs, ht, show ¬ 4 ≤ i by omega]
      · simp [hs, ht, hi]
  · rw [if_pos e]
    unfold toldW
    rw [nobad]
def strsD (l : List Str) : PyData := .list (l.map .str)
theorem dp_strs {K : PySem.W.Frag} {H : Hp} {a : Addr} : ∀ {l : List Str}, H a = some (.lst (l.map V.str)) → Dp K H (.ref a) (strsD l) := fun {l} e => .lst (SqL.of e) (by
  clear e
  induction l with
  | nil => exact .nil
  | cons z r ih => exact .cons (.str z) ih)
theorem due7_eqv (ms : List MaM) (z : Str) (x : V) (i : Nat) : SeqAt.shaped (strsD (due7 ms z x i)) = true ∧ PyData.eqv (strsD (due7 ms z x i)) (strsD (due7 ms z x i)) = true := by
  unfold due7
  split
  · decide +kernel
  · split
    · decide +kernel
    · split <;> decide +kernel
theorem ok_law {f : Addr} {fd : FuncData} {P' : Addr} (F : FnP K "law" slaw f fd) (T : Txt mg) (D_law_pen : Dn P w K mg base 1 "_law_pen" ["script"] (spPen K)) (D_law_draw : Dn P w K mg base 1 "_law_draw" ["pen", "many"] spDraw)
    (D_law_names : Dn P w K mg base 2 "_law_names" ["pen", "many"] spNames) (D_law_masters : Dn P w K mg base 5 "_law_masters" ["pen", "most", "pool"] (spMasters K)) (D_law_there : Dn P w K mg base 2 "_law_there" ["masters", "name"] (spMsL K RThere))
    (D_law_told : Dn P w K mg base 6 "_law_told" ["way", "masters", "name", "place", "trait"] (spTold K P')) : FnOk P w K mg base CX0 7 f fd ["script"] (spLaw K P') := by
  refine okN F sclaw (fun vs H Q E h => ?_) (fun cdv A outer s H vs Q E hr h => ?_)
  · obtain ⟨a, ns, rfl, _⟩ := h
    rfl
  · obtain ⟨a, ns, rfl, hS, hl, hG, q⟩ := h
    refine ⟨_, (pss_cons (ps_set (i := 1) sclaw.nd rfl (Or.inl rfl) (pe_dn D_law_pen (hr.mono (by decide)) rfl (pa_cons (pv 0) pa_nil)))
      (pss_cons (ps_set (i := 2) sclaw.nd rfl (Or.inl rfl) (pe_dn D_law_names (hr.mono (by decide)) rfl (pa_cons (pv 1) (pa_cons (pe_op op_add pe_int (pe_dn D_law_draw (hr.mono (by decide)) rfl (pa_cons (pv 1) (pa_cons pe_int pa_nil)))) pa_nil))))
      (pss_cons (ps_set (i := 3) sclaw.nd rfl (Or.inr rfl) (pe_dn D_law_masters (hr.mono (by decide)) rfl (pa_cons (pv 1) (pa_cons pe_int (pa_cons (pv 2) pa_nil)))))
      (pss_cons (ps_set (i := 4) sclaw.nd rfl (Or.inr rfl) (pe_lc (own := [("master", 17)]) (g := gName 17) (by rfl) sclaw.nd (pi_tup (pv 3)) (blkOk_by (own := [("master", 17)]) (N := ["script", "pen", "pool", "masters", "names", "k", "name", "there", "strange", "some", "bad", "place", "odd", "wrong", "at", "asked", "due", "master", "one", "way"]) (sc := defScope slaw) (by decide +kernel)) (fun _ _ _ _ _ => (pg_name (i := 17) sclaw.nd rfl (Or.inl rfl))) (fun _ _ _ _ _ => pts_nil) (fun _ _ _ _ _ => (pe_ix (r := rIxT K) ix_tup (pv 17) pe_int (fun _ _ => rfl)))))
      (pss_cons (ps_for PassesOwn.never rfl (pi_range1 rfl T.m_range (pa_cons (pe_op op_add pe_int (pe_dn D_law_draw (hr.mono (by decide)) rfl (pa_cons (pv 1) (pa_cons pe_int pa_nil)))) pa_nil)) (pg_name (i := 5) sclaw.nd rfl (Or.inl rfl)) (pss_cons (ps_set (i := 6) sclaw.nd rfl (Or.inl rfl) (pe_ix ix_list (pv 4) (pe_dn D_law_draw (hr.mono (by decide)) rfl (pa_cons (pv 1) (pa_cons (pe_callB call_len_seq (by rfl) T.m_len (by decide +kernel) (pa_cons (pv 4) pa_nil)) pa_nil))) (fun _ _ => rfl)))
      (pss_cons (ps_set (i := 7) sclaw.nd rfl (Or.inr rfl) (pe_dn D_law_there (hr.mono (by decide)) rfl (pa_cons (pv 3) (pa_cons (pv 6) pa_nil))))
      (pss_cons (ps_set (i := 8) sclaw.nd rfl (Or.inl rfl) (pe_lst (pa_cons pe_str (pa_cons pe_str (pa_cons pe_non (pa_cons pe_int (pa_cons pe_bl (pa_cons (pe_tup (pa_cons (pv 6) pa_nil)) (pa_cons (pe_lst (pa_cons (pv 6) pa_nil)) (pa_cons (pe_op op_add_str (pv 6) pe_str) (pa_cons (pe_upper (pv 6)) (pa_cons pe_dnewK pa_nil))))))))))))
      (pss_cons (ps_setLc (i := 9) (own := [("one", 18)]) (g := gName 18) (by rfl) sclaw.nd rfl rfl (sw_true rfl rfl rfl (by decide +kernel)) (pi_list (pe_op op_cat (pv 8) (pv 2))) (blkOk_by (own := [("one", 18)]) (N := ["script", "pen", "pool", "masters", "names", "k", "name", "there", "strange", "some", "bad", "place", "odd", "wrong", "at", "asked", "due", "master", "one", "way"]) (sc := defScope slaw) (by decide +kernel)) (fun _ _ _ _ _ => (pg_name (i := 18) sclaw.nd rfl (Or.inl rfl))) (fun _ _ _ _ _ => (pts_one (PW.pt (pw_or (pt_not (pt_val (pe_callB (r := rIsi K) call_isi (by rfl) T.m_isinstance (by decide +kernel) (pa_cons (pv 18) (pa_cons (pe_bltn (v := .ty "str") (u := .type "str") rfl T.m_str (by decide +kernel) rfl) pa_nil))))) (pw_or1 (pt_cmpR (r := rIn K true) op_notIn_seq (pv 18) (pv 4) rfl)))))) (fun _ _ _ _ _ => (pv 18)))
      (pss_cons (ps_set (i := 10) sclaw.nd rfl (Or.inl rfl) (pe_ix ix_list (pv 9) (pe_dn D_law_draw (hr.mono (by decide)) rfl (pa_cons (pv 1) (pa_cons (pe_callB call_len_seq (by rfl) T.m_len (by decide +kernel) (pa_cons (pv 9) pa_nil)) pa_nil))) (fun _ _ => rfl)))
      (pss_cons (ps_set (i := 11) sclaw.nd rfl (Or.inl rfl) (pe_ix ix_list (pe_op op_cat (pv 7) (pv 2)) (pe_dn D_law_draw (hr.mono (by decide)) rfl (pa_cons (pv 1) (pa_cons (pe_callB call_len_seq (by rfl) T.m_len (by decide +kernel) (pa_cons (pe_op op_cat (pv 7) (pv 2)) pa_nil)) pa_nil))) (fun _ _ => rfl)))
      (pss_cons (ps_setLc (i := 9) (own := [("one", 18)]) (g := gName 18) (by rfl) sclaw.nd rfl rfl (sw_true rfl rfl rfl (by decide +kernel)) (pi_list (pe_op op_cat (pv 8) (pv 2))) (blkOk_by (own := [("one", 18)]) (N := ["script", "pen", "pool", "masters", "names", "k", "name", "there", "strange", "some", "bad", "place", "odd", "wrong", "at", "asked", "due", "master", "one", "way"]) (sc := defScope slaw) (by decide +kernel)) (fun _ _ _ _ _ => (pg_name (i := 18) sclaw.nd rfl (Or.inl rfl))) (fun _ _ _ _ _ => (pts_one (PW.pt (pw_or (pt_not (pt_val (pe_callB (r := rIsi K) call_isi (by rfl) T.m_isinstance (by decide +kernel) (pa_cons (pv 18) (pa_cons (pe_bltn (v := .ty "str") (u := .type "str") rfl T.m_str (by decide +kernel) rfl) pa_nil))))) (pw_or1 (pt_cmpR (r := rIn K true) op_notIn_seq (pv 18) (pv 7) rfl)))))) (fun _ _ _ _ _ => (pv 18)))
      (pss_cons (ps_set (i := 12) sclaw.nd rfl (Or.inl rfl) (pe_ix ix_list (pv 9) (pe_dn D_law_draw (hr.mono (by decide)) rfl (pa_cons (pv 1) (pa_cons (pe_callB call_len_seq (by rfl) T.m_len (by decide +kernel) (pa_cons (pv 9) pa_nil)) pa_nil))) (fun _ _ => rfl)))
      (pss_cons (ps_set (i := 13) sclaw.nd rfl (Or.inl rfl) (pe_ix ix_list (pe_lst (pa_cons pe_str (pa_cons pe_str (pa_cons pe_non (pa_cons pe_int (pa_cons (pe_lst (pa_cons pe_str pa_nil)) (pa_cons pe_str (pa_cons (pe_tup (pa_cons pe_str pa_nil)) (pa_cons pe_dnewK pa_nil))))))))) (pe_dn D_law_draw (hr.mono (by decide)) rfl (pa_cons (pv 1) (pa_cons pe_int pa_nil))) (fun _ _ => rfl)))
      (pss_one (ps_for PassesOwn.never rfl (pi_range1 rfl T.m_range (pa_cons pe_int pa_nil)) (pg_name (i := 14) sclaw.nd rfl (Or.inl rfl)) (pss_cons (ps_set (i := 15) sclaw.nd rfl (Or.inr rfl) (pe_lst (pa_cons (pe_ix ix_list (pe_lst (pa_cons (pv 6) (pa_cons (pv 10) pa_nil))) (pe_op op_mod (pv 14) pe_int) (fun _ _ => rfl)) (pa_cons (pe_ix ix_list (pe_lst (pa_cons (pv 11) (pa_cons (pv 12) pa_nil))) (pe_op op_mod (pe_op op_fdiv (pv 14) pe_int) pe_int) (fun _ _ => rfl)) (pa_cons (pe_ix ix_list (pe_lst (pa_cons pe_str (pa_cons (pv 13) pa_nil))) (pe_op op_fdiv (pv 14) pe_int) (fun _ _ => rfl)) pa_nil)))))
      (pss_cons (ps_set (i := 16) sclaw.nd rfl (Or.inl rfl) (pe_op op_rep (pe_lst (pa_cons pe_str pa_nil)) pe_int))
      (pss_cons (ps_if (pt_cmpR op_eq (pe_op op_mod (pv 14) pe_int) pe_int (nomark _)) (pss_one (ps_set (i := 16) sclaw.nd rfl (Or.inl rfl) (pe_op op_rep (pe_lst (pa_cons pe_str pa_nil)) pe_int))) (pss_one (ps_if (PW.pt (pw_or (pt_not (pt_val (pe_callB call_isi (by rfl) T.m_isinstance (by decide +kernel) (pa_cons (pe_ix ix_list (pv 15) pe_int (fun _ _ => rfl)) (pa_cons (pe_bltn (v := .ty "str") (u := .type "str") rfl T.m_str (by decide +kernel) rfl) pa_nil))))) (pw_or1 (pt_cmpR op_notIn_seq (pe_ix ix_list (pv 15) pe_int (fun _ _ => rfl)) (pv 7) rfl)))) (pss_one (ps_set (i := 16) sclaw.nd rfl (Or.inl rfl) (pe_lst (pa_cons pe_str (pa_cons pe_str (pa_cons pe_str (pa_cons pe_str pa_nil))))))) (pss_one (ps_if (pt_cmpR op_ge (pv 14) pe_int (nomark _)) (pss_one (ps_set (i := 16) sclaw.nd rfl (Or.inl rfl) (pe_lst (pa_cons pe_str (pa_cons pe_str (pa_cons pe_str (pa_cons pe_str pa_nil))))))) pss_nil)))))
      (pss_one (ps_if (pt_cmpR (op_neD hr.units) (pe_lc (own := [("way", 19)]) (g := gName 19) (by rfl) sclaw.nd (pi_range1 rfl T.m_range (pa_cons pe_int pa_nil)) (blkOk_by (own := [("way", 19)]) (N := ["script", "pen", "pool", "masters", "names", "k", "name", "there", "strange", "some", "bad", "place", "odd", "wrong", "at", "asked", "due", "master", "one", "way"]) (sc := defScope slaw) (by decide +kernel)) (fun _ _ _ _ _ => (pg_name (i := 19) sclaw.nd rfl (Or.inl rfl))) (fun _ _ _ _ _ => pts_nil) (fun _ _ _ _ _ => (pe_dn D_law_told (hr.mono (by decide)) rfl (pa_cons (pv 19) (pa_cons (pv 3) (pa_cons (pe_ix (r := rIxL K) ix_list (pv 15) pe_int (fun _ _ => rfl)) (pa_cons (pe_ix (r := rIxL K) ix_list (pv 15) pe_int (fun _ _ => rfl)) (pa_cons (pe_ix (r := rIxL K) ix_list (pv 15) pe_int (fun _ _ => rfl)) pa_nil)))))))) (pv 16) (nomark _)) (pss_one (ps_ret pe_bl)) pss_nil)))))))))))))))))
      (pss_one (ps_ret pe_bl))))))), ?_⟩
    refine ⟨_, rfl, a, ns, rfl, hS, hl, fun p L H1 np nL hP1 s1 => ?_⟩
    have g1 : TabG H1 P' := tabSame hG s1
    refine ⟨_, rfl, _, rfl, p, L, ns, 0, 5, rfl, hP1, (by decide), (by decide), (by decide), fun k2 H2 k20 k21 hP2 b2 => ?_⟩
    have g2 := hP1.tab g1 b2.kp
    obtain ⟨m2, rfl⟩ : ∃ m2 : Nat, k2 = (m2 : Int) := ⟨_, (Int.toNat_of_nonneg k20).symm⟩
    refine ⟨_, _, rfl, rfl, p, L, ns, _, 1 + m2, by
      have e : ((1 : Int) + (m2 : Int)) = ((1 + m2 : Nat) : Int) := by omega
      show [V.ref p, V.int ((1 : Int) + (m2 : Int))] = _
      rw [e], (by omega), hP2, (by omega), fun c zs H3 xc lz nd nb n_c _ hP3 k3 => ?_⟩
    have g3 := hP2.tab g2 k3
    refine ⟨_, rfl, _, rfl, p, L, c, ns, _, 6, zs, rfl, (by decide), (by decide), hP3, (by omega), xc, n_c, nd, nb, (by omega), fun v ms H4 hv ok hP4 k4 => ?_⟩
    have g4 := hP3.tab g3 k4
    have xc4 := k4 _ _ xc n_c
    have nbz := nb
    clear hP1 hP2 hP3 g1 g2 g3 s1 b2 k3 k4 xc nd nb np nL
    -- names
    obtain ⟨b, rs, rfl, sb, db⟩ := dp_tup hv
    have lrs : rs.length = ms.length := by
      have h := dpAll_len db
      rw [List.length_map] at h
      exact h
    have lms : ms.length ≤ 12 := ok.few
    refine ⟨_, rfl, b, rfl, ⟨_, sb⟩, fun N hN => ?_⟩
    refine lc_tup (K := K) (a := b) (xs := rs) (fun i H => Same H4 H ∧ H N = some (.lst (((ms.take i).map (·.name)).map V.str))) ⟨same_new hN, upd_same⟩ (fun i H _ h => sqT_same h.1 sb) ?_ ?_
    · rintro i x H hi ⟨s, x4⟩
      obtain ⟨m, em, hm⟩ := at_rec db hi
      obtain ⟨cc, g, ps, rfl, sc, sg, dg⟩ := ma_at (dp_same s hm)
      refine ⟨rfl, ?_⟩
      refine ⟨_, rfl, cc, _, 0, .str m.name, rfl, rfl, sc, rfl, _, x4, ?_, fun b o e => ?_, ?_⟩
      · rw [List.length_map, List.length_map, List.length_take]
        exact small1000 (by omega)
      · rw [upd_ne (ne_of_none e hN)]
        exact s _ _ e
      · rw [upd_same, take_more em, List.map_append, List.map_append] <;> rfl
    rintro H5 ⟨s5, x5⟩
    rw [lrs, List.take_length] at x5
    have g5 := tabSame g4 s5
    have hP5 := hP4.keep' s5
    have nNp : N ≠ p := hP4.lt_new hN
    have hv5 := dp_same s5 hv
    have xc5 := s5 _ _ xc4
    refine ⟨_, rfl, p, L, ns, _, 11, rfl, hP5, (by decide), (by decide), (by omega), fun k6 H6 k60 k61 hP6 b6 => ?_⟩
    have g6 := hP5.tab g5 b6.kp
    have hP6 := hP6.up (m := 9100) (by omega)
    have hv6 := dpT_keep (KT.pen hP5 b6.kp) hv5 ok.noL
    have x6 := b6.kp _ _ x5 nNp
    have xc6 := b6.kp _ _ xc5 n_c
    have lzs : zs.length ≤ 5 := by omega
    have lms0 := ok.some
    have lN : ((ms.map (·.name)).map V.str).length = ms.length := by rw [List.length_map, List.length_map]
    clear s5 b6 hP5 hP4 g4 g5 hv5 hv xc4 xc5 x5 sb db lrs hN k20 k21
    refine ⟨_, _, rfl, rfl, 2 + k6, rfl, (by omega), (by omega), ?_⟩
    refine for_range (lo := 0) (n := (2 + k6).toNat) (fun i σ H => ∃ v6 v7 v8 v9 v10 v11 v12 v13 v14 v15 v16 v5 : Option V, σ = [some (.ref a), some (.ref p), some (.ref c), some (.ref b), some (.ref N), v5, v6, v7, v8, v9, v10, v11, v12, v13, v14, v15, v16, none, none, none] ∧ Pen H p L ns (9100 + 5 * i) ∧ TabG H P' ∧ Dp K H (.ref b) (.tuple (ms.map MaM.d)) ∧ H N = some (.lst ((ms.map (·.name)).map V.str)) ∧ H c = some (.lst (zs.map V.str))) ?_ ?_ ?_
    · exact ⟨none, none, none, none, none, none, none, none, none, none, none, none, rfl, hP6, g6, hv6, x6, xc6⟩
    · rintro i σ H hi ⟨v6, v7, v8, v9, v10, v11, v12, v13, v14, v15, v16, v5, rfl, hP, g, hv, x, xc⟩
      have hi : i < 20 := by omega
      clear hP6 g6 hv6 x6 xc6
      -- name
      refine ⟨_, rfl, _, rfl, _, rfl, N, _, rfl, .inl (SqL.of x), p, L, ns, _, _, rfl, hP, (by omega), (by omega), (by omega), fun k7 H7 k70 k71 hP7 b7 => ?_⟩
      obtain ⟨y7, e7, m7⟩ := listAt k70 k71
      obtain ⟨z7, mz, rfl⟩ := List.mem_map.mp m7
      obtain ⟨o7, mm7, rfl⟩ := List.mem_map.mp mz
      clear mz
      have g7 := hP.tab g b7.kp
      have hv7 := dpT_keep (KT.pen hP b7.kp) hv ok.noL
      have x7 := b7.kp _ _ x nNp
      have xc7 := b7.kp _ _ xc n_c
      refine ⟨N, _, _, _, rfl, rfl, SqL.of x7, e7, ?_⟩
      clear e7
      -- there
      refine ⟨_, rfl, _, rfl, .ref b, o7.name, ms, rfl, hv7, ok, ⟨o7, mm7, rfl⟩, fun W H8 s8 hW xW => ?_⟩
      have g8 := tabSame g7 s8
      have hP8 := hP7.keep' s8
      have hv8 := dp_same s8 hv7
      have x8 := s8 _ _ x7
      have xc8 := s8 _ _ xc7
      have nWp : W ≠ p := hP7.lt_new hW
      have lW := there_len ms o7.name fun m hm => (ok.all m (chn_mem hm)).few
      have lz8 : o7.name.length ≤ 8 := name_small (ok.all o7 mm7).name
      have hfn : fndV ms (.str o7.name) = some o7 := fnd_self ok.once mm7
      have xW : H8 W = some (.lst ((there ms o7.name).map V.str)) := xW
      have okc : ∀ o ∈ chn ms o7.name, OkMa o := fun o ho => ok.all o (chn_mem ho)
      have okW : ∀ z ∈ there ms o7.name, z.length ≤ 1000 := fun z hz => by
        obtain ⟨hne, m', hm', pl, hpl, npl⟩ := there_said hz
        have h := name_small (((okc m' hm').own pl hpl).2)
        rw [npl] at h
        omega
      clear g7 hv7 x7 xc7 hP7 b7 hP g hv x xc s8 hW
      -- strange
      generalize o7.name = z at *
      refine ⟨_, rfl, (by show 1 ≤ sizeLine; decide), fun t1 ht1 => ?_⟩
      have s81 := same_new (o := .tup [V.str z]) ht1
      have y1 : (upd H8 t1 (.tup [V.str z])) t1 = some (.tup [V.str z]) := upd_same
      revert y1 s81
      generalize upd H8 t1 (.tup [V.str z]) = H81
      intro s81 y1
      refine ⟨_, rfl, (by show 1 ≤ sizeLine; decide), fun l1 hl1 => ?_⟩
      have s82 := same_new (o := .lst [V.str z]) hl1
      have y2 : (upd H81 l1 (.lst [V.str z])) l1 = some (.lst [V.str z]) := upd_same
      revert y2 s82
      generalize upd H81 l1 (.lst [V.str z]) = H82
      intro s82 y2
      refine ⟨_, rfl, _, _, rfl, rfl, Nat.le_of_lt (small1000 (by show z.length + 1 ≤ 1000; omega)), ?_⟩
      refine ⟨_, rfl, ⟨_, rfl⟩, _, rfl, rfl, (by omega), fun d1 hd1 => ?_⟩
      have s83 := same_new (o := .dK []) hd1
      have y3 : (upd H82 d1 (.dK [])) d1 = some (.dK []) := upd_same
      revert y3 s83
      generalize upd H82 d1 (.dK []) = H83
      intro s83 y3
      refine ⟨(by show 10 ≤ sizeLine; decide), fun S hS8 => ?_⟩
      have nSp : S ≠ p := ((hP8.keep' s81).keep' s82 |>.keep' s83).lt_new hS8
      obtain ⟨XS, eXS⟩ : ∃ XS, XS = [V.str "", V.str "nobody", V.non, V.int 0, V.bl true, V.ref t1, V.ref l1, V.str (z ++ " "), V.str (Txt.upper z), V.ref d1] := ⟨_, rfl⟩
      rw [← eXS]
      have s84 := same_new (o := .lst XS) hS8
      have y4 : (upd H83 S (.lst XS)) S = some (.lst XS) := upd_same
      revert y4 s84
      generalize upd H83 S (.lst XS) = H9
      intro s84 y4
      have s9 : Same H8 H9 := ((s81.trans s82).trans s83).trans s84
      have yt := s84 _ _ (s83 _ _ (s82 _ _ y1))
      have yl := s84 _ _ (s83 _ _ y2)
      have yd := s84 _ _ y3
      have okX : ∀ x ∈ XS, Ok1 H9 x := by
        intro x hx
        rw [eXS] at hx
        simp only [List.mem_cons, List.not_mem_nil, or_false] at hx
        rcases hx with rfl | rfl | rfl | rfl | rfl | rfl | rfl | rfl | rfl | rfl
        · exact ok_str (by decide)
        · exact ok_str (by decide)
        · exact ⟨.non, fun _ e => nomatch e⟩
        · exact ⟨.int 0, fun _ e => nomatch e⟩
        · exact ⟨.bl true, fun _ e => nomatch e⟩
        · exact ok_ref (.tup yt)
        · exact ok_ref (.lst yl)
        · exact ok_str (Nat.le_of_lt (small1000 (by rw [len_add]; show z.length + 1 ≤ 1000; omega)))
        · exact ok_str (Nat.le_of_lt (small1000 (by have := len_upper z; omega)))
        · exact ok_ref (.dK yd)
      have lXS : XS.length = 10 := by rw [eXS] <;> rfl
      have hnon : V.non ∈ XS := by rw [eXS]; simp
      have noX : ∀ (zs' : List Str), V.non ∈ XS.filter (keepV zs') := fun zs' => List.mem_filter.mpr ⟨hnon, rfl⟩
      clear eXS yt yl yd y1 y2 y3 s81 s82 s83 s84 hS8 hl1 hd1 ht1 hnon
      have g9 := tabSame g8 s9
      have hP9 := hP8.keep' s9
      have hv9 := dp_same s9 hv8
      have x9 := s9 _ _ x8
      have xc9 := s9 _ _ xc8
      have xW9 := s9 _ _ xW
      clear s9 xW xc8 x8 hv8 hP8 g8
      -- some
      refine ⟨_, rfl, _, rfl, S, c, XS, zs.map V.str, rfl, rfl, y4, xc9, small1000 (by rw [List.length_map]; omega) |> Nat.le_of_lt, fun C hC => ?_⟩
      have s10 := same_new (o := .lst (XS ++ zs.map V.str)) hC
      have y5 : (upd H9 C (.lst (XS ++ zs.map V.str))) C = some (.lst (XS ++ zs.map V.str)) := upd_same
      revert y5 s10
      generalize upd H9 C (.lst (XS ++ zs.map V.str)) = H10
      intro s10 y5
      refine ⟨C, rfl, ⟨_, SqL.of y5⟩, fun D hD => ?_⟩
      refine lc_list (K := K) (a := C) (xs := XS ++ zs.map V.str) (fun i H => Same H10 H ∧ H D = some (.lst (((XS ++ zs.map V.str).take i).filter (keepV (ms.map (·.name)))))) ⟨same_new hD, upd_same⟩ (fun i H _ h => SqL.of (h.1 _ _ y5)) ?_ ?_
      · rintro i x H hi ⟨s, xD⟩
        refine ⟨rfl, ?_⟩
        have mx := List.mem_of_getElem? hi
        have okx : Ok1 H x := by
          rcases List.mem_append.mp mx with mx | mx
          · exact Ok1.same (okX x mx) (s10.trans s)
          · exact strs_ok (zs := zs) (fun z hz => by have := name_small (nbz z hz); omega) x mx
        have put : keepV (ms.map (·.name)) x = true → (H D = some (.lst (((XS ++ zs.map V.str).take i).filter (keepV (ms.map (·.name))))) ∧ (((XS ++ zs.map V.str).take i).filter (keepV (ms.map (·.name)))).length < sizeLine ∧ Same H10 (upd H D (.lst (((XS ++ zs.map V.str).take i).filter (keepV (ms.map (·.name))) ++ [x]))) ∧ (upd H D (.lst (((XS ++ zs.map V.str).take i).filter (keepV (ms.map (·.name))) ++ [x]))) D = some (.lst (((XS ++ zs.map V.str).take (i + 1)).filter (keepV (ms.map (·.name)))))) := fun hk => by
          refine ⟨xD, ?_, fun b o e => ?_, ?_⟩
          · have h := List.length_filter_le (keepV (ms.map (·.name))) ((XS ++ zs.map V.str).take i)
            rw [List.length_take, List.length_append, List.length_map] at h
            exact small1000 (by omega)
          · rw [upd_ne (ne_of_none e hD)]
            exact s _ _ e
          · rw [upd_same, filter_more hi, if_pos hk]
        obtain ⟨t, ty, kt⟩ := okx.1.str_ (K := K)
        refine ⟨_, rfl, x, .ty "str", t, .type "str", isStr x, rfl, .ty "str", ty, kt, _, rfl, ?_⟩
        cases hs : isStr x with
        | false =>
          refine iteT (iteT ⟨_, rfl, _, put ?_⟩)
          unfold keepV
          rw [hs] <;> rfl
        | true =>
          refine iteF ?_
          obtain ⟨y, rfl⟩ : ∃ y, x = .str y := by cases x <;> first | exact ⟨_, rfl⟩ | cases hs
          refine ⟨_, rfl, _, rfl, N, _, rfl, .inl (SqL.of (s _ _ (s10 _ _ x9))), rfl, flat_strs _, _, rfl, iteB (fun hk => ?_) fun hk => ?_⟩
          · have hk : (!inV (.str y) ((ms.map (·.name)).map V.str)) = true := hk
            exact ⟨_, rfl, _, put (by unfold keepV; rw [hk, Bool.or_true])⟩
          · have hk : (!inV (.str y) ((ms.map (·.name)).map V.str)) = false := hk
            have hk' : keepV (ms.map (·.name)) (.str y) = false := by
              unfold keepV
              rw [hk] <;> rfl
            refine ⟨s, ?_⟩
            rw [filter_more hi, if_neg (by rw [hk']; decide)]
            exact xD
      rintro H11 ⟨s11, xD⟩
      rw [List.take_length] at xD
      obtain ⟨SM, eSM⟩ : ∃ SM, SM = (XS ++ zs.map V.str).filter (keepV (ms.map (·.name))) := ⟨_, rfl⟩
      rw [← eSM] at xD
      have lSM : SM.length ≤ 15 := by
        have h := List.length_filter_le (keepV (ms.map (·.name))) (XS ++ zs.map V.str)
        rw [← eSM, List.length_append, List.length_map] at h
        omega
      have lSM0 : 0 < SM.length := List.length_pos_of_mem (show V.non ∈ SM from by rw [eSM]; exact List.mem_filter.mpr ⟨List.mem_append_left _ (List.mem_filter.mp (noX [])).1, rfl⟩)
      have s12 := s10.trans s11
      have g11 := tabSame g9 s12
      have hP11 := hP9.keep' s12
      have hv11 := dp_same s12 hv9
      have x11 := s12 _ _ x9
      have xc11 := s12 _ _ xc9
      have xW11 := s12 _ _ xW9
      have xS11 := s12 _ _ y4
      have nDp : D ≠ p := (hP9.keep' s10).lt_new hD
      have okX11 : ∀ x ∈ XS ++ zs.map V.str, Ok1 H11 x := fun x mx => by
        rcases List.mem_append.mp mx with mx | mx
        · exact Ok1.same (okX x mx) s12
        · exact strs_ok (zs := zs) (fun z hz => by have := name_small (nbz z hz); omega) x mx
      clear s12 s11 s10 y5 hC hD okX x9 xc9 xW9 y4 hv9 hP9 g9
      -- bad
      refine ⟨_, rfl, _, rfl, _, rfl, D, _, rfl, .inl (SqL.of xD), p, L, ns, _, _, rfl, hP11, (by omega), (by omega), (by omega), fun k12 H12 k120 k121 hP12 b12 => ?_⟩
      obtain ⟨bad, ebad, mbad⟩ := listAt k120 k121
      have g12 := hP11.tab g11 b12.kp
      have hv12 := dpT_keep (KT.pen hP11 b12.kp) hv11 ok.noL
      have x12 := b12.kp _ _ x11 nNp
      have xc12 := b12.kp _ _ xc11 n_c
      have xW12 := b12.kp _ _ xW11 nWp
      have xS12 := b12.kp _ _ xS11 nSp
      have okX12 := okA_kp hP11 hP12 okX11 b12.kp
      refine ⟨D, _, _, _, rfl, rfl, SqL.of (b12.kp _ _ xD nDp), ebad, ?_⟩
      have okbad : keepV (ms.map (·.name)) bad = true ∧ bad ∈ XS ++ zs.map V.str := by
        rw [eSM] at mbad
        exact ⟨(List.mem_filter.mp mbad).2, (List.mem_filter.mp mbad).1⟩
      clear ebad mbad b12 hP11 g11 hv11 x11 xc11 xW11 xS11 okX11 xD eSM lSM lSM0
      -- place
      have lWz : (there ms z).length + zs.length ≤ 1000 := by omega
      have lWz' : ((there ms z).map V.str).length + (zs.map V.str).length ≤ sizeLine := by
        rw [List.length_map, List.length_map]
        exact Nat.le_of_lt (small1000 lWz)
      refine ⟨_, rfl, _, rfl, W, c, _, _, rfl, rfl, xW12, xc12, lWz', fun C1 hC1 => ?_⟩
      have s13 := same_new (o := .lst ((there ms z).map V.str ++ zs.map V.str)) hC1
      have y6 : (upd H12 C1 (.lst ((there ms z).map V.str ++ zs.map V.str))) C1 = some (.lst ((there ms z).map V.str ++ zs.map V.str)) := upd_same
      have nC1p : C1 ≠ p := hP12.lt_new hC1
      revert y6 s13
      generalize upd H12 C1 (.lst ((there ms z).map V.str ++ zs.map V.str)) = H13
      intro s13 y6
      refine ⟨_, rfl, _, rfl, _, rfl, W, c, _, _, rfl, rfl, s13 _ _ xW12, s13 _ _ xc12, lWz', fun C2 hC2 => ?_⟩
      have s14 := same_new (o := .lst ((there ms z).map V.str ++ zs.map V.str)) hC2
      have y7 : (upd H13 C2 (.lst ((there ms z).map V.str ++ zs.map V.str))) C2 = some (.lst ((there ms z).map V.str ++ zs.map V.str)) := upd_same
      revert y7 s14
      generalize upd H13 C2 (.lst ((there ms z).map V.str ++ zs.map V.str)) = H14
      intro s14 y7
      have s15 := s13.trans s14
      have lTz : ((there ms z).map V.str ++ zs.map V.str).length = (there ms z).length + zs.length := by rw [List.length_append, List.length_map, List.length_map]
      refine ⟨C2, _, rfl, .inl (SqL.of y7), p, L, ns, _, _, rfl, hP12.keep' s15, (by omega), (by omega), (by omega), fun k15 H15 k150 k151 hP15 b15 => ?_⟩
      obtain ⟨plv, epl, mpl⟩ := listAt k150 k151
      refine ⟨C1, _, _, _, rfl, rfl, SqL.of (b15.kp _ _ (s14 _ _ y6) nC1p), epl, ?_⟩
      obtain ⟨pl, rfl, lpl⟩ : ∃ pl : Str, plv = .str pl ∧ pl.length ≤ 1000 := by
        rcases List.mem_append.mp mpl with h | h
        · obtain ⟨y, hy, rfl⟩ := List.mem_map.mp h
          exact ⟨y, rfl, okW y hy⟩
        · obtain ⟨y, hy, rfl⟩ := List.mem_map.mp h
          exact ⟨y, rfl, by have := name_small (nbz y hy); omega⟩
      have hPm := hP12.keep' s15
      have g15 := hPm.tab (tabSame g12 s15) b15.kp
      have hv15 := dpT_keep (KT.pen hPm b15.kp) (dp_same s15 hv12) ok.noL
      have x15 := b15.kp _ _ (s15 _ _ x12) nNp
      have xc15 := b15.kp _ _ (s15 _ _ xc12) n_c
      have xW15 := b15.kp _ _ (s15 _ _ xW12) nWp
      have xS15 := b15.kp _ _ (s15 _ _ xS12) nSp
      have okX15 := okA_kp hPm hP15 (fun x hx => Ok1.same (okX12 x hx) s15) b15.kp
      clear hPm epl mpl b15 s15 s14 s13 y6 y7 hC1 hC2 hP12 g12 hv12 x12 xc12 xW12 xS12 okX12 lTz
      -- some, by places
      refine ⟨_, rfl, _, rfl, S, c, XS, zs.map V.str, rfl, rfl, xS15, xc15, small1000 (by rw [List.length_map]; omega) |> Nat.le_of_lt, fun C hC => ?_⟩
      have s10 := same_new (o := .lst (XS ++ zs.map V.str)) hC
      have y5 : (upd H15 C (.lst (XS ++ zs.map V.str))) C = some (.lst (XS ++ zs.map V.str)) := upd_same
      revert y5 s10
      generalize upd H15 C (.lst (XS ++ zs.map V.str)) = H16
      intro s10 y5
      refine ⟨C, rfl, ⟨_, SqL.of y5⟩, fun D hD => ?_⟩
      refine lc_list (K := K) (a := C) (xs := XS ++ zs.map V.str) (fun i H => Same H16 H ∧ H D = some (.lst (((XS ++ zs.map V.str).take i).filter (keepV (there ms z))))) ⟨same_new hD, upd_same⟩ (fun i H _ h => SqL.of (h.1 _ _ y5)) ?_ ?_
      · rintro i x H hi ⟨s, xD⟩
        refine ⟨rfl, ?_⟩
        have mx := List.mem_of_getElem? hi
        have okx : Ok1 H x := Ok1.same (okX15 x mx) (s10.trans s)
        have put : keepV (there ms z) x = true → (H D = some (.lst (((XS ++ zs.map V.str).take i).filter (keepV (there ms z)))) ∧ (((XS ++ zs.map V.str).take i).filter (keepV (there ms z))).length < sizeLine ∧ Same H16 (upd H D (.lst (((XS ++ zs.map V.str).take i).filter (keepV (there ms z)) ++ [x]))) ∧ (upd H D (.lst (((XS ++ zs.map V.str).take i).filter (keepV (there ms z)) ++ [x]))) D = some (.lst (((XS ++ zs.map V.str).take (i + 1)).filter (keepV (there ms z))))) := fun hk => by
          refine ⟨xD, ?_, fun b o e => ?_, ?_⟩
          · have h := List.length_filter_le (keepV (there ms z)) ((XS ++ zs.map V.str).take i)
            rw [List.length_take, List.length_append, List.length_map] at h
            exact small1000 (by omega)
          · rw [upd_ne (ne_of_none e hD)]
            exact s _ _ e
          · rw [upd_same, filter_more hi, if_pos hk]
        obtain ⟨t, ty, kt⟩ := okx.1.str_ (K := K)
        refine ⟨_, rfl, x, .ty "str", t, .type "str", isStr x, rfl, .ty "str", ty, kt, _, rfl, ?_⟩
        cases hs : isStr x with
        | false =>
          refine iteT (iteT ⟨_, rfl, _, put ?_⟩)
          unfold keepV
          rw [hs] <;> rfl
        | true =>
          refine iteF ?_
          obtain ⟨y, rfl⟩ : ∃ y, x = .str y := by cases x <;> first | exact ⟨_, rfl⟩ | cases hs
          refine ⟨_, rfl, _, rfl, W, _, rfl, .inl (SqL.of (s _ _ (s10 _ _ xW15))), rfl, flat_strs _, _, rfl, iteB (fun hk => ?_) fun hk => ?_⟩
          · have hk : (!inV (.str y) ((there ms z).map V.str)) = true := hk
            exact ⟨_, rfl, _, put (by unfold keepV; rw [hk, Bool.or_true])⟩
          · have hk : (!inV (.str y) ((there ms z).map V.str)) = false := hk
            have hk' : keepV (there ms z) (.str y) = false := by
              unfold keepV
              rw [hk] <;> rfl
            refine ⟨s, ?_⟩
            rw [filter_more hi, if_neg (by rw [hk']; decide)]
            exact xD
      rintro H17 ⟨s11, xD⟩
      rw [List.take_length] at xD
      obtain ⟨SM, eSM⟩ : ∃ SM, SM = (XS ++ zs.map V.str).filter (keepV (there ms z)) := ⟨_, rfl⟩
      rw [← eSM] at xD
      have lSM : SM.length ≤ 15 := by
        have h := List.length_filter_le (keepV (there ms z)) (XS ++ zs.map V.str)
        rw [← eSM, List.length_append, List.length_map] at h
        omega
      have lSM0 : 0 < SM.length := List.length_pos_of_mem (show V.non ∈ SM from by rw [eSM]; exact List.mem_filter.mpr ⟨List.mem_append_left _ (List.mem_filter.mp (noX [])).1, rfl⟩)
      have s12 := s10.trans s11
      have g17 := tabSame g15 s12
      have hP17 := hP15.keep' s12
      have hv17 := dp_same s12 hv15
      have x17 := s12 _ _ x15
      have xc17 := s12 _ _ xc15
      have xW17 := s12 _ _ xW15
      have nDp : D ≠ p := (hP15.keep' s10).lt_new hD
      have okX17 : ∀ x ∈ XS ++ zs.map V.str, Ok1 H17 x := fun x mx => Ok1.same (okX15 x mx) s12
      clear s12 s11 s10 y5 hC hD okX15 x15 xc15 xW15 xS15 hv15 hP15 g15
      -- odd
      refine ⟨_, rfl, _, rfl, _, rfl, D, _, rfl, .inl (SqL.of xD), p, L, ns, _, _, rfl, hP17, (by omega), (by omega), (by omega), fun k18 H18 k180 k181 hP18 b18 => ?_⟩
      obtain ⟨odd, eodd, modd⟩ := listAt k180 k181
      have g18 := hP17.tab g17 b18.kp
      have hv18 := dpT_keep (KT.pen hP17 b18.kp) hv17 ok.noL
      have x18 := b18.kp _ _ x17 nNp
      have xc18 := b18.kp _ _ xc17 n_c
      have xW18 := b18.kp _ _ xW17 nWp
      have okX18 := okA_kp hP17 hP18 okX17 b18.kp
      refine ⟨D, _, _, _, rfl, rfl, SqL.of (b18.kp _ _ xD nDp), eodd, ?_⟩
      have okodd : keepV (there ms z) odd = true ∧ odd ∈ XS ++ zs.map V.str := by
        rw [eSM] at modd
        exact ⟨(List.mem_filter.mp modd).2, (List.mem_filter.mp modd).1⟩
      have ob18 : Ok1 H18 bad := okX18 bad okbad.2
      have oo18 : Ok1 H18 odd := okX18 odd okodd.2
      have nobad : fndV ms bad = none := keep_fnd okbad.1
      clear eodd modd b18 hP17 g17 hv17 x17 xc17 xW17 okX17 xD eSM lSM lSM0 okX18
      -- wrong
      refine ⟨(by show 1 ≤ sizeLine; decide), fun l2 hl2 => ?_⟩
      have s19 := same_new (o := .lst [V.str "left"]) hl2
      have y8 : (upd H18 l2 (.lst [V.str "left"])) l2 = some (.lst [V.str "left"]) := upd_same
      revert y8 s19
      generalize upd H18 l2 (.lst [V.str "left"]) = H19
      intro s19 y8
      refine ⟨(by show 1 ≤ sizeLine; decide), fun t2 ht2 => ?_⟩
      have s20 := same_new (o := .tup [V.str "left"]) ht2
      have y9 : (upd H19 t2 (.tup [V.str "left"])) t2 = some (.tup [V.str "left"]) := upd_same
      revert y9 s20
      generalize upd H19 t2 (.tup [V.str "left"]) = H20
      intro s20 y9
      intro d2 hd2
      have s21 := same_new (o := .dK []) hd2
      have y10 : (upd H20 d2 (.dK [])) d2 = some (.dK []) := upd_same
      revert y10 s21
      generalize upd H20 d2 (.dK []) = H21
      intro s21 y10
      refine ⟨(by show 8 ≤ sizeLine; decide), fun Wr hWr => ?_⟩
      obtain ⟨WS, eWS⟩ : ∃ WS, WS = [V.str "Left", V.str "", V.non, V.int 0, V.ref l2, V.str "name", V.ref t2, V.ref d2] := ⟨_, rfl⟩
      rw [← eWS]
      have s22 := same_new (o := .lst WS) hWr
      have y11 : (upd H21 Wr (.lst WS)) Wr = some (.lst WS) := upd_same
      have s182 : Same H18 H21 := (s19.trans s20).trans s21
      have nWr : Wr ≠ p := (hP18.keep' s182).lt_new hWr
      revert y11 s22
      generalize upd H21 Wr (.lst WS) = H22
      intro s22 y11
      have yl := s22 _ _ (s21 _ _ (s20 _ _ y8))
      have yt := s22 _ _ (s21 _ _ y9)
      have yd := s22 _ _ y10
      have okW2 : ∀ x ∈ WS, Ok1 H22 x ∧ traitV x = false := by
        intro x hx
        rw [eWS] at hx
        simp only [List.mem_cons, List.not_mem_nil, or_false] at hx
        rcases hx with rfl | rfl | rfl | rfl | rfl | rfl | rfl | rfl
        · exact ⟨ok_str (by decide), by decide +kernel⟩
        · exact ⟨ok_str (by decide), by decide +kernel⟩
        · exact ⟨⟨.non, fun _ e => nomatch e⟩, rfl⟩
        · exact ⟨⟨.int 0, fun _ e => nomatch e⟩, rfl⟩
        · exact ⟨ok_ref (.lst yl), rfl⟩
        · exact ⟨ok_str (by decide), by decide +kernel⟩
        · exact ⟨ok_ref (.tup yt), rfl⟩
        · exact ⟨ok_ref (.dK yd), rfl⟩
      have lWS : WS.length = 8 := by rw [eWS] <;> rfl
      clear eWS yl yt yd y8 y9 y10 hl2 ht2 hd2 hWr s19 s20 s21
      have s23 := s182.trans s22
      refine ⟨_, rfl, p, L, ns, _, 8, rfl, hP18.keep' s23, (by decide), (by decide), (by omega), fun k24 H24 k240 k241 hP24 b24 => ?_⟩
      have hPm := hP18.keep' s23
      obtain ⟨wr, ewr, mwr⟩ := listAt (xs := WS) k240 (by rw [lWS]; exact k241)
      refine ⟨Wr, _, _, _, rfl, rfl, SqL.of (b24.kp _ _ y11 nWr), ewr, ?_⟩
      obtain ⟨ow22, nwr⟩ := okW2 wr mwr
      have ow24 := th_kp hPm hP24 ow22 b24.kp
      have ob24 := th_kp hPm hP24 (Ok1.same ob18 s23) b24.kp
      have oo24 := th_kp hPm hP24 (Ok1.same oo18 s23) b24.kp
      have g24 := hPm.tab (tabSame g18 s23) b24.kp
      have hv24 := dpT_keep (KT.pen hPm b24.kp) (dp_same s23 hv18) ok.noL
      have x24 := b24.kp _ _ (s23 _ _ x18) nNp
      have xc24 := b24.kp _ _ (s23 _ _ xc18) n_c
      have xW24 := b24.kp _ _ (s23 _ _ xW18) nWp
      have hP24 := hP24.up (m := 9100 + 5 * (i + 1)) (by omega)
      clear hPm ewr mwr okW2 ow22 y11 s22 s23 s182 b24 hP18 g18 hv18 x18 xc18 xW18 ob18 oo18 lWS
      -- the eight
      refine ⟨8, rfl, (by decide), (by decide), ?_⟩
      refine for_range (lo := 0) (n := (8 : Int).toNat) (fun j σ H => ∃ v14 v15 v16 : Option V, σ = [some (.ref a), some (.ref p), some (.ref c), some (.ref b), some (.ref N), some (.int (0 + (i : Int))), some (.str z), some (.ref W), some (.ref S), some (.ref D), some bad, some (.str pl), some odd, some wr, v14, v15, v16, none, none, none] ∧ Tk P' H24 H) ?_ ?_ ?_
      · exact ⟨_, _, _, rfl, Tk.refl g24⟩
      · rintro j σ H25 hj ⟨v14, v15, v16, rfl, tk25⟩
        have hj : j < 8 := hj
        have g25 := tk25.1
        have ob25 := Ok1.tk ob24 g24 tk25
        have oo25 := Ok1.tk oo24 g24 tk25
        have ow25 := Ok1.tk ow24 g24 tk25
        -- asked
        obtain ⟨x1, ex1, hx1⟩ : ∃ x1, atI [V.str z, bad] ((0 + (j : Int)) % 2) = some x1 ∧ ((x1 = V.str z ∧ j % 2 = 0) ∨ (x1 = bad ∧ j % 2 = 1)) := by
          rcases (by omega : j % 2 = 0 ∨ j % 2 = 1) with e | e
          · refine ⟨_, at_any (j := 0) (by omega) rfl, .inl ⟨rfl, e⟩⟩
          · refine ⟨_, at_any (j := 1) (by omega) rfl, .inr ⟨rfl, e⟩⟩
        obtain ⟨x2, ex2, hx2⟩ : ∃ x2, atI [V.str pl, odd] ((0 + (j : Int)) / 2 % 2) = some x2 ∧ (x2 = V.str pl ∨ x2 = odd) := by
          rcases (by omega : j / 2 % 2 = 0 ∨ j / 2 % 2 = 1) with e | e
          · refine ⟨_, at_any (j := 0) (by omega) rfl, .inl rfl⟩
          · refine ⟨_, at_any (j := 1) (by omega) rfl, .inr rfl⟩
        obtain ⟨x3, ex3, hx3⟩ : ∃ x3, atI [V.str "left", wr] ((0 + (j : Int)) / 4) = some x3 ∧ ((x3 = V.str "left" ∧ j < 4) ∨ (x3 = wr ∧ 4 ≤ j)) := by
          rcases (by omega : j / 4 = 0 ∨ j / 4 = 1) with e | e
          · refine ⟨_, at_any (j := 0) (by omega) rfl, .inl ⟨rfl, by omega⟩⟩
          · refine ⟨_, at_any (j := 1) (by omega) rfl, .inr ⟨rfl, by omega⟩⟩
        have o1 : Ok1 H25 x1 := by
          rcases hx1 with ⟨rfl, _⟩ | ⟨rfl, _⟩
          · exact ok_str (Nat.le_of_lt (small1000 (by omega)))
          · exact ob25
        have o2 : Ok1 H25 x2 := by
          rcases hx2 with rfl | rfl
          · exact ok_str (Nat.le_of_lt (small1000 lpl))
          · exact oo25
        have o3 : Ok1 H25 x3 := by
          rcases hx3 with ⟨rfl, _⟩ | ⟨rfl, _⟩
          · exact ok_str (by decide)
          · exact ow25
        have ht3 : (traitV x3 = true ∧ j < 4) ∨ (traitV x3 = false ∧ 4 ≤ j) := by
          rcases hx3 with ⟨rfl, h⟩ | ⟨rfl, h⟩
          · exact .inl ⟨by decide +kernel, h⟩
          · exact .inr ⟨nwr, h⟩
        have eo : z = o7.name := V.str.inj (fndV_some hfn).1
        have hfn' := (fndV_some hfn).2
        have due := due7_ok (x2 := x2) hfn' nobad (by rw [← eo]; exact hx1) ht3
        rw [← eo] at due
        refine ⟨_, rfl, _, rfl, (by show 2 ≤ sizeLine; decide), fun A1 hA1 => ?_⟩
        have s31 := same_new (o := .lst [V.str z, bad]) hA1
        have z1 : (upd H25 A1 (.lst [V.str z, bad])) A1 = some (.lst [V.str z, bad]) := upd_same
        revert z1 s31
        generalize upd H25 A1 (.lst [V.str z, bad]) = H26
        intro s31 z1
        refine ⟨_, rfl, _, _, rfl, rfl, (by show (0 : Int) < 2; decide), A1, _, _, _, rfl, rfl, SqL.of z1, ex1, ?_⟩
        refine ⟨_, rfl, _, rfl, (by show 2 ≤ sizeLine; decide), fun A2 hA2 => ?_⟩
        have s32 := same_new (o := .lst [V.str pl, odd]) hA2
        have z2 : (upd H26 A2 (.lst [V.str pl, odd])) A2 = some (.lst [V.str pl, odd]) := upd_same
        revert z2 s32
        generalize upd H26 A2 (.lst [V.str pl, odd]) = H27
        intro s32 z2
        refine ⟨_, rfl, _, _, rfl, rfl, ⟨by decide, by decide⟩, _, _, rfl, rfl, (by show (0 : Int) < 2; decide), A2, _, _, _, rfl, rfl, SqL.of z2, ex2, ?_⟩
        refine ⟨_, rfl, (by show 2 ≤ sizeLine; decide), fun A3 hA3 => ?_⟩
        have s33 := same_new (o := .lst [V.str "left", wr]) hA3
        have z3 : (upd H27 A3 (.lst [V.str "left", wr])) A3 = some (.lst [V.str "left", wr]) := upd_same
        revert z3 s33
        generalize upd H27 A3 (.lst [V.str "left", wr]) = H28
        intro s33 z3
        refine ⟨_, rfl, _, _, rfl, rfl, ⟨by decide, by decide⟩, A3, _, _, _, rfl, rfl, SqL.of z3, ex3, ?_⟩
        refine ⟨(by show 3 ≤ sizeLine; decide), fun As hAs => ?_⟩
        have s34 := same_new (o := .lst [x1, x2, x3]) hAs
        have z4 : (upd H28 As (.lst [x1, x2, x3])) As = some (.lst [x1, x2, x3]) := upd_same
        revert z4 s34
        generalize upd H28 As (.lst [x1, x2, x3]) = H29
        intro s34 z4
        have s35 := ((s31.trans s32).trans s33).trans s34
        clear s31 s32 s33 s34 z1 z2 z3 hA1 hA2 hA3 hAs ex1 ex2 ex3
        -- due
        refine ⟨(by show 1 ≤ sizeLine; decide), fun R1 hR1 => ?_⟩
        have s36 := same_new (o := .lst [V.str "told"]) hR1
        have z5 : (upd H29 R1 (.lst [V.str "told"])) R1 = some (.lst [V.str "told"]) := upd_same
        revert z5 s36
        generalize upd H29 R1 (.lst [V.str "told"]) = H30
        intro s36 z5
        refine ⟨R1, 4, _, rfl, rfl, z5, (by decide), (by decide), (by show 4 ≤ sizeLine; decide), fun Du hDu => ?_⟩
        have s37 := same_new (o := .lst ((List.replicate (Int.toNat 4) [V.str "told"]).flatten)) hDu
        have z6 : (upd H30 Du (.lst ((List.replicate (Int.toNat 4) [V.str "told"]).flatten))) Du = some (.lst (TOLD4.map V.str)) := upd_same
        revert z6 s37
        generalize upd H30 Du (.lst ((List.replicate (Int.toNat 4) [V.str "told"]).flatten)) = H31
        intro s37 z6
        have s38 := s36.trans s37
        clear z5 hR1 hDu s36 s37
        refine seq_via (fun σ' H' => σ' = [some (.ref a), some (.ref p), some (.ref c), some (.ref b), some (.ref N), some (.int (0 + (i : Int))), some (.str z), some (.ref W), some (.ref S), some (.ref D), some bad, some (.str pl), some odd, some wr, some (.int (0 + (j : Int))), some (.ref As), some (.ref Du), none, none, none] ∧ H31 = H') (fun nx go => go _ _ ⟨rfl, rfl⟩) ?_
        rintro _ _ ⟨rfl, rfl⟩
        refine seq_via (fun σ' H' => ∃ Du, σ' = [some (.ref a), some (.ref p), some (.ref c), some (.ref b), some (.ref N), some (.int (0 + (i : Int))), some (.str z), some (.ref W), some (.ref S), some (.ref D), some bad, some (.str pl), some odd, some wr, some (.int (0 + (j : Int))), some (.ref As), some (.ref Du), none, none, none] ∧ Same H29 H' ∧ H' Du = some (.lst ((due7 ms z x2 j).map V.str))) ?_ ?_
        · intro nx go
          refine ⟨_, rfl, _, _, rfl, rfl, (by show (0 : Int) < 2; decide), rfl, _, rfl, iteB (fun hb => ?_) fun hb => ?_⟩
          · have e : (0 + (j : Int)) % 2 = 1 := V.int.inj (of_decide_eq_true hb)
            have ed : due7 ms z x2 j = [("master" : Str), "master", "master", "master"] := if_pos (by omega)
            refine ⟨(by show 1 ≤ sizeLine; decide), fun R2 hR2 => ?_⟩
            have s40 := same_new (o := .lst [V.str "master"]) hR2
            refine ⟨R2, 4, _, rfl, rfl, upd_same, (by decide), (by decide), (by show 4 ≤ sizeLine; decide), fun Du2 hDu2 => ?_⟩
            exact go _ _ ⟨Du2, rfl, (s38.trans s40).trans (same_new hDu2), by rw [ed]; exact upd_same⟩
          · have e : ¬ j % 2 = 1 := fun e => of_decide_eq_false hb (congrArg V.int (show (0 + (j : Int)) % 2 = 1 by omega))
            have oz := Ok1.same o2 (s35.trans s38)
            obtain ⟨t, ty, kt⟩ := oz.1.str_ (K := K)
            refine ⟨_, rfl, As, _, _, _, rfl, rfl, SqL.of (s38 _ _ z4), at_any (j := 1) rfl rfl, x2, .ty "str", t, .type "str", isStr x2, rfl, .ty "str", ty, kt, _, rfl, ?_⟩
            have yes : keepV (there ms z) x2 = true → due7 ms z x2 j = [("told" : Str), "told", "place", "place"] := fun h => (if_neg e).trans (if_pos h)
            have no : keepV (there ms z) x2 = false → due7 ms z x2 j = if 4 ≤ j then [("told" : Str), "told", "told", "trait"] else [("told" : Str), "told", "told", "told"] := fun h => (if_neg e).trans (if_neg (by rw [h]; decide))
            have got : ∀ Q : L2.St → Hp → Prop, True := fun _ => trivial
            cases hs : isStr x2 with
            | false =>
              have hk : keepV (there ms z) x2 = true := by
                unfold keepV
                rw [hs] <;> rfl
              refine iteT (iteT ⟨(by show 4 ≤ sizeLine; decide), fun Du2 hDu2 => ?_⟩)
              exact go _ _ ⟨Du2, rfl, s38.trans (same_new hDu2), by rw [yes hk]; exact upd_same⟩
            | true =>
              refine iteF ?_
              obtain ⟨y, rfl⟩ : ∃ y, x2 = .str y := by cases x2 <;> first | exact ⟨_, rfl⟩ | cases hs
              refine ⟨_, rfl, As, _, _, _, rfl, rfl, SqL.of (s38 _ _ z4), at_any (j := 1) rfl rfl, _, rfl, W, _, rfl, .inl (SqL.of (s38 _ _ (s35 _ _ (tk25.lst g24 xW24)))), rfl, flat_strs _, _, rfl, iteB (fun hk => ?_) fun hk => ?_⟩
              · have hk : (!inV (.str y) ((there ms z).map V.str)) = true := hk
                have hk : keepV (there ms z) (.str y) = true := by unfold keepV; rw [hk, Bool.or_true]
                refine ⟨(by show 4 ≤ sizeLine; decide), fun Du2 hDu2 => ?_⟩
                exact go _ _ ⟨Du2, rfl, s38.trans (same_new hDu2), by rw [yes hk]; exact upd_same⟩
              · have hk : (!inV (.str y) ((there ms z).map V.str)) = false := hk
                have hk : keepV (there ms z) (.str y) = false := by
                  unfold keepV
                  rw [hk] <;> rfl
                refine ⟨_, rfl, _, _, rfl, rfl, _, rfl, iteB (fun hb => ?_) fun hb => ?_⟩
                · refine ⟨(by show 4 ≤ sizeLine; decide), fun Du2 hDu2 => ?_⟩
                  exact go _ _ ⟨Du2, rfl, s38.trans (same_new hDu2), by rw [no hk, if_pos (by have := of_decide_eq_true hb; omega)]; exact upd_same⟩
                · exact go _ _ ⟨Du, rfl, s38, by rw [no hk, if_neg (by have := of_decide_eq_false hb; omega)]; exact z6⟩
        rintro _ H32 ⟨Du, rfl, s39, z7⟩
        clear z6 s38
        have s40 := s35.trans s39
        have zA := s39 _ _ z4
        have o1 := Ok1.same o1 s40
        have o2 := Ok1.same o2 s40
        have o3 := Ok1.same o3 s40
        have tk32 := tk25.trans (Tk.same g25 s40)
        have g32 := tk32.1
        have hv32 := dpT_keep (KT.tk g24 tk32) hv24 ok.noL
        clear s35 s39 s40 z4 ob25 oo25 ow25 tk25
        -- what is told
        refine ⟨4, rfl, (by decide), (by decide), fun D5 hD5 => ?_⟩
        have gD := tabSame g32 (same_new (o := .lst []) hD5)
        refine lc_range (fun k H => Tk P' H32 H ∧ H D5 = some (.lst (((List.range k).map fun w => toldW ms x1 x2 x3 (0 + (w : Nat))).map V.str))) ⟨Tk.same g32 (same_new hD5), upd_same⟩ ?_ ?_
        · rintro k H hk ⟨tk, xD⟩
          have hk : k < 4 := hk
          have kt := KT.tk (K := K) g32 tk
          refine ⟨rfl, ?_⟩
          have zH := tk.lst g32 zA
          refine ⟨_, rfl, _, rfl, _, rfl, As, _, _, _, rfl, rfl, SqL.of zH, at_any (j := 0) rfl rfl, _, rfl, As, _, _, _, rfl, rfl, SqL.of zH, at_any (j := 1) rfl rfl, _, rfl, As, _, _, _, rfl, rfl, SqL.of zH, at_any (j := 2) rfl rfl, ?_⟩
          refine ⟨_, .ref b, x1, x2, x3, ms, rfl, dpT_keep kt hv32 ok.noL, ok, Ok1.tk o1 g32 tk, Ok1.tk o2 g32 tk, Ok1.tk o3 g32 tk, tk.1, fun H' tk' => ?_⟩
          have xD' := tk'.lst tk.1 xD
          refine ⟨_, xD', ?_, Tk.put g32 hD5 (tk.trans tk') (tab_put tk'.1 xD'), ?_⟩
          · rw [List.length_map, List.length_map, List.length_range]
            exact small1000 (by omega)
          · rw [upd_same, List.range_succ, List.map_append, List.map_append] <;> rfl
        · rintro H33 ⟨tk33, xD⟩
          have xD : H33 D5 = some (.lst ((due7 ms z x2 j).map V.str)) := by
            rw [← due]
            exact xD
          refine ⟨_, rfl, _, _, dp_strs xD, dp_strs (tk33.lst g32 z7), (due7_eqv ms z x2 j).1, (due7_eqv ms z x2 j).1, ?_⟩
          rw [(due7_eqv ms z x2 j).2]
          refine ⟨_, rfl, iteF ?_⟩
          exact ⟨_, _, _, rfl, tk32.trans tk33⟩
      · rintro σ H26 ⟨v14, v15, v16, rfl, tk26⟩
        exact ⟨_, _, _, _, _, _, _, _, _, _, _, _, rfl, Pen.tk hP24 g24 tk26, tk26.1, dpT_keep (KT.tk g24 tk26) hv24 ok.noL, tk26.lst g24 x24, tk26.lst g24 xc24⟩
    · rintro σ H ⟨v6, v7, v8, v9, v10, v11, v12, v13, v14, v15, v16, v5, rfl, _⟩
      exact q H

end
end K7

set_option Elab.async false
set_option linter.all false
set_option maxRecDepth 100000
set_option maxHeartbeats 2000000
namespace K7
open PySem PySem.Spec PyProof.Rows L2 GxR Gx Gd Gn Gm Gc Gk Gw Gt
theorem dnS {P : Program} {w : World} {K : PySem.W.Frag} {mg : Str → Option Value} {base : Heap} {k : Nat} {x : Str} {ps : List Str} {sp : Sp} {st : Stmt} {fd : FuncData} (F : FnP K x st (He.fAd K (x, none)) fd) (hm : mg x = some (.ref (He.ga K x)))
    (b : Binds K fd ps []) (h : FnOk P w K mg base (L2.CX P w) k (He.fAd K (x, none)) fd ps sp) : DnS P w K mg base k x ps sp := ⟨_, fd, hm, F.kp, b, h⟩

/-! ### the head -/
def dOf (x : Str) (st : Stmt) : He.DefD := ⟨(x, none), x, x, defArgs st, defBody st, defScope st, [], []⟩
def fn : List He.DefD := [dOf "is_one_of" sis_one_of, dOf "is_name" sis_name, dOf "is_trait" sis_trait, dOf "master_of" smaster_of, dOf "masters_along" smasters_along, dOf "chain_of" schain_of, dOf "places_of" splaces_of, dOf "said_of" ssaid_of, dOf "worth_said" sworth_said, dOf "worth_by" sworth_by, dOf "text_by" stext_by, dOf "_law_pen" slaw_pen, dOf "_law_draw" slaw_draw, dOf "_law_names" slaw_names, dOf "_law_line" slaw_line, dOf "_law_lines" slaw_lines, dOf "_law_worth" slaw_worth, dOf "_law_traits" slaw_traits, dOf "_law_place" slaw_place, dOf "_law_masters" slaw_masters, dOf "_law_chain" slaw_chain, dOf "_law_there" slaw_there, dOf "_law_word" slaw_word, dOf "_law_told" slaw_told, dOf "law" slaw]
def fa : List He.Fa := [.glo "is_one_of", .glo "is_name", .glo "is_trait", .glo "master_of", .glo "masters_along", .glo "chain_of", .glo "places_of", .glo "said_of", .glo "worth_said", .glo "worth_by", .glo "text_by", .glo "_law_pen", .glo "_law_draw", .glo "_law_names", .glo "_law_line", .glo "_law_lines", .glo "_law_worth", .glo "_law_traits", .glo "_law_place", .glo "_law_masters", .glo "_law_chain", .glo "_law_there", .glo "_law_word", .glo "_law_told", .glo "law", .free "len", .free "all", .free "bool", .free "isinstance", .free "list", .free "range", .free "str", .free "int", .free "tuple", .free "zip", .free "reversed", .free "ValueError", .glo "TRAITS", .glo "OWN_WORTHS", .glo "DeckError", .str "LETTERS" LETS, .str "FIGURES" FIGS, .int "LONGEST_NAME" 8]
def tf : List He.Defn := [("is_name", none)]
def ex : PySem.W.Frag → Bool := fun K => He.tupB K "TRAITS" [.str "left", .str "top", .str "wide", .str "high", .str "size", .str "ink"] && ((CLS.all fun x => (He.Fa.glo x).ok K) && (ewB K "NoMaster" && (ewB K "NoPlace" && (ewB K "NoTrait" && ownB K))))
def ts : List He.Tab := [(fun K => He.ga K "OWN_WORTHS", TRS)]
abbrev R : PySem.W.OpenRow := PySem.W.OpenLaw.row PySem.Challenge.rw_mastershow_k07_refused_of_masters
abbrev hk : PySem.W.Hook := He.hookX 4 fa fn ts tf ex
def ob (s : PySem.W.SharedT) : He.AlX := He.obsX 4 fa fn ts tf ex (HandSHeadRun.getT s)
theorem ob_eq (s : PySem.W.SharedT) : ob s = hk.obs s.abs := He.obsX_eq (HandSHeadRun.getT_eq s)
theorem run (w : World) : HandSHeadRun.RunEq R (PySem.W.view R.prog [60]) hk ob 20000 [("DeckError" : PySem.Str), ("NoDeck" : PySem.Str), ("NoMaster" : PySem.Str), ("NoSlide" : PySem.Str), ("NoPlace" : PySem.Str), ("NoTrait" : PySem.Str), ("NoWorth" : PySem.Str), ("NoSetting" : PySem.Str), ("NoName" : PySem.Str), ("Taken" : PySem.Str), ("TooMany" : PySem.Str), ("Ring" : PySem.Str), ("Used" : PySem.Str), ("NoRoom" : PySem.Str), ("NoSteps" : PySem.Str), ("NoPress" : PySem.Str), ("NoTime" : PySem.Str), ("NoShow" : PySem.Str), ("NoLink" : PySem.Str), ("NoNumber" : PySem.Str), ("NoWord" : PySem.Str), ("NoDeed" : PySem.Str), ("NoText" : PySem.Str), ("NoRow" : PySem.Str), ("is_one_of" : PySem.Str), ("TRAITS" : PySem.Str), ("OWN_WORTHS" : PySem.Str), ("LETTERS" : PySem.Str), ("FIGURES" : PySem.Str), ("LONGEST_NAME" : PySem.Str), ("is_name" : PySem.Str), ("is_trait" : PySem.Str), ("master_of" : PySem.Str), ("masters_along" : PySem.Str), ("chain_of" : PySem.Str), ("places_of" : PySem.Str), ("said_of" : PySem.Str), ("worth_said" : PySem.Str), ("worth_by" : PySem.Str), ("text_by" : PySem.Str), ("_law_pen" : PySem.Str), ("_law_draw" : PySem.Str), ("_law_names" : PySem.Str), ("_law_line" : PySem.Str), ("_law_lines" : PySem.Str), ("_law_worth" : PySem.Str), ("_law_traits" : PySem.Str), ("_law_place" : PySem.Str), ("_law_masters" : PySem.Str), ("_law_chain" : PySem.Str), ("_law_there" : PySem.Str), ("_law_set" : PySem.Str), ("_law_told_lines" : PySem.Str), ("_law_word" : PySem.Str), ("_law_told" : PySem.Str)] w := by
  refine PySem.W.byRow2 "special-get-raises" (P := fun w => HandSHeadRun.RunEq R (PySem.W.view R.prog [60]) hk ob 20000 [("DeckError" : PySem.Str), ("NoDeck" : PySem.Str), ("NoMaster" : PySem.Str), ("NoSlide" : PySem.Str), ("NoPlace" : PySem.Str), ("NoTrait" : PySem.Str), ("NoWorth" : PySem.Str), ("NoSetting" : PySem.Str), ("NoName" : PySem.Str), ("Taken" : PySem.Str), ("TooMany" : PySem.Str), ("Ring" : PySem.Str), ("Used" : PySem.Str), ("NoRoom" : PySem.Str), ("NoSteps" : PySem.Str), ("NoPress" : PySem.Str), ("NoTime" : PySem.Str), ("NoShow" : PySem.Str), ("NoLink" : PySem.Str), ("NoNumber" : PySem.Str), ("NoWord" : PySem.Str), ("NoDeed" : PySem.Str), ("NoText" : PySem.Str), ("NoRow" : PySem.Str), ("is_one_of" : PySem.Str), ("TRAITS" : PySem.Str), ("OWN_WORTHS" : PySem.Str), ("LETTERS" : PySem.Str), ("FIGURES" : PySem.Str), ("LONGEST_NAME" : PySem.Str), ("is_name" : PySem.Str), ("is_trait" : PySem.Str), ("master_of" : PySem.Str), ("masters_along" : PySem.Str), ("chain_of" : PySem.Str), ("places_of" : PySem.Str), ("said_of" : PySem.Str), ("worth_said" : PySem.Str), ("worth_by" : PySem.Str), ("text_by" : PySem.Str), ("_law_pen" : PySem.Str), ("_law_draw" : PySem.Str), ("_law_names" : PySem.Str), ("_law_line" : PySem.Str), ("_law_lines" : PySem.Str), ("_law_worth" : PySem.Str), ("_law_traits" : PySem.Str), ("_law_place" : PySem.Str), ("_law_masters" : PySem.Str), ("_law_chain" : PySem.Str), ("_law_there" : PySem.Str), ("_law_set" : PySem.Str), ("_law_told_lines" : PySem.Str), ("_law_word" : PySem.Str), ("_law_told" : PySem.Str)] w) (fun w => ?_) (fun w => ?_) w
  · intro os
    kernel_rfl
  · intro os
    kernel_rfl
theorem dn {P : Program} {w : World} {K : PySem.W.Frag} {mg : Str → Option Value} {base : Heap} {k : Nat} {x : Str} {ps : List Str} {sp : Sp} {st : Stmt} {fd : FuncData} (F : FnP K x st (He.fAd K (x, none)) fd) (hm : mg x = some (.ref (He.ga K x)))
    (b : Binds K fd ps []) (h : FnOk P w K mg base CX0 k (He.fAd K (x, none)) fd ps sp) : Dn P w K mg base k x ps sp := ⟨_, fd, hm, F.kp, b, h⟩
theorem facts {w : World} {K : PySem.W.Frag} {h : Heap} {mg : Str → Option Value} {f : Addr} (X : K.In h) (G : h.Ns mainGlobals mg) (hfa : mg ("law" : Str) = some (.ref f)) (c : He.SaysX fa fn ts tf ex w h K) :
    LamX.LawAtS PySem.Challenge.rw_mastershow_k07_refused_of_masters w K CX0 7 63 "script" mg f h := by
  have cd := c.t.d
  obtain ⟨fd0, F0⟩ := cd.def_ 0 (d := dOf "is_one_of" sis_one_of) rfl
  have F0 : FnP K "is_one_of" sis_one_of (He.fAd K ("is_one_of", none)) fd0 := F0
  obtain ⟨fd1, F1⟩ := cd.def_ 1 (d := dOf "is_name" sis_name) rfl
  have F1 : FnP K "is_name" sis_name (He.fAd K ("is_name", none)) fd1 := F1
  obtain ⟨fd2, F2⟩ := cd.def_ 2 (d := dOf "is_trait" sis_trait) rfl
  have F2 : FnP K "is_trait" sis_trait (He.fAd K ("is_trait", none)) fd2 := F2
  obtain ⟨fd3, F3⟩ := cd.def_ 3 (d := dOf "master_of" smaster_of) rfl
  have F3 : FnP K "master_of" smaster_of (He.fAd K ("master_of", none)) fd3 := F3
  obtain ⟨fd4, F4⟩ := cd.def_ 4 (d := dOf "masters_along" smasters_along) rfl
  have F4 : FnP K "masters_along" smasters_along (He.fAd K ("masters_along", none)) fd4 := F4
  obtain ⟨fd5, F5⟩ := cd.def_ 5 (d := dOf "chain_of" schain_of) rfl
  have F5 : FnP K "chain_of" schain_of (He.fAd K ("chain_of", none)) fd5 := F5
  obtain ⟨fd6, F6⟩ := cd.def_ 6 (d := dOf "places_of" splaces_of) rfl
  have F6 : FnP K "places_of" splaces_of (He.fAd K ("places_of", none)) fd6 := F6
  obtain ⟨fd7, F7⟩ := cd.def_ 7 (d := dOf "said_of" ssaid_of) rfl
  have F7 : FnP K "said_of" ssaid_of (He.fAd K ("said_of", none)) fd7 := F7
  obtain ⟨fd8, F8⟩ := cd.def_ 8 (d := dOf "worth_said" sworth_said) rfl
  have F8 : FnP K "worth_said" sworth_said (He.fAd K ("worth_said", none)) fd8 := F8
  obtain ⟨fd9, F9⟩ := cd.def_ 9 (d := dOf "worth_by" sworth_by) rfl
  have F9 : FnP K "worth_by" sworth_by (He.fAd K ("worth_by", none)) fd9 := F9
  obtain ⟨fd10, F10⟩ := cd.def_ 10 (d := dOf "text_by" stext_by) rfl
  have F10 : FnP K "text_by" stext_by (He.fAd K ("text_by", none)) fd10 := F10
  obtain ⟨fd11, F11⟩ := cd.def_ 11 (d := dOf "_law_pen" slaw_pen) rfl
  have F11 : FnP K "_law_pen" slaw_pen (He.fAd K ("_law_pen", none)) fd11 := F11
  obtain ⟨fd12, F12⟩ := cd.def_ 12 (d := dOf "_law_draw" slaw_draw) rfl
  have F12 : FnP K "_law_draw" slaw_draw (He.fAd K ("_law_draw", none)) fd12 := F12
  obtain ⟨fd13, F13⟩ := cd.def_ 13 (d := dOf "_law_names" slaw_names) rfl
  have F13 : FnP K "_law_names" slaw_names (He.fAd K ("_law_names", none)) fd13 := F13
  obtain ⟨fd14, F14⟩ := cd.def_ 14 (d := dOf "_law_line" slaw_line) rfl
  have F14 : FnP K "_law_line" slaw_line (He.fAd K ("_law_line", none)) fd14 := F14
  obtain ⟨fd15, F15⟩ := cd.def_ 15 (d := dOf "_law_lines" slaw_lines) rfl
  have F15 : FnP K "_law_lines" slaw_lines (He.fAd K ("_law_lines", none)) fd15 := F15
  obtain ⟨fd16, F16⟩ := cd.def_ 16 (d := dOf "_law_worth" slaw_worth) rfl
  have F16 : FnP K "_law_worth" slaw_worth (He.fAd K ("_law_worth", none)) fd16 := F16
  obtain ⟨fd17, F17⟩ := cd.def_ 17 (d := dOf "_law_traits" slaw_traits) rfl
  have F17 : FnP K "_law_traits" slaw_traits (He.fAd K ("_law_traits", none)) fd17 := F17
  obtain ⟨fd18, F18⟩ := cd.def_ 18 (d := dOf "_law_place" slaw_place) rfl
  have F18 : FnP K "_law_place" slaw_place (He.fAd K ("_law_place", none)) fd18 := F18
  obtain ⟨fd19, F19⟩ := cd.def_ 19 (d := dOf "_law_masters" slaw_masters) rfl
  have F19 : FnP K "_law_masters" slaw_masters (He.fAd K ("_law_masters", none)) fd19 := F19
  obtain ⟨fd20, F20⟩ := cd.def_ 20 (d := dOf "_law_chain" slaw_chain) rfl
  have F20 : FnP K "_law_chain" slaw_chain (He.fAd K ("_law_chain", none)) fd20 := F20
  obtain ⟨fd21, F21⟩ := cd.def_ 21 (d := dOf "_law_there" slaw_there) rfl
  have F21 : FnP K "_law_there" slaw_there (He.fAd K ("_law_there", none)) fd21 := F21
  obtain ⟨fd22, F22⟩ := cd.def_ 22 (d := dOf "_law_word" slaw_word) rfl
  have F22 : FnP K "_law_word" slaw_word (He.fAd K ("_law_word", none)) fd22 := F22
  obtain ⟨fd23, F23⟩ := cd.def_ 23 (d := dOf "_law_told" slaw_told) rfl
  have F23 : FnP K "_law_told" slaw_told (He.fAd K ("_law_told", none)) fd23 := F23
  obtain ⟨fd24, F24⟩ := cd.def_ 24 (d := dOf "law" slaw) rfl
  have F24 : FnP K "law" slaw (He.fAd K ("law", none)) fd24 := F24
  have e := hfa.symm.trans (He.glo_ok X G (cd.fact 24 (f := .glo "law") rfl))
  cases e
  have T : Txt mg := ⟨He.free_ok X G (cd.fact 25 (f := .free "len") rfl),
    He.free_ok X G (cd.fact 26 (f := .free "all") rfl),
    He.free_ok X G (cd.fact 27 (f := .free "bool") rfl),
    He.free_ok X G (cd.fact 28 (f := .free "isinstance") rfl),
    He.free_ok X G (cd.fact 29 (f := .free "list") rfl),
    He.free_ok X G (cd.fact 30 (f := .free "range") rfl),
    He.free_ok X G (cd.fact 31 (f := .free "str") rfl),
    He.free_ok X G (cd.fact 32 (f := .free "int") rfl),
    He.free_ok X G (cd.fact 33 (f := .free "tuple") rfl),
    He.free_ok X G (cd.fact 34 (f := .free "zip") rfl),
    He.free_ok X G (cd.fact 35 (f := .free "reversed") rfl),
    He.free_ok X G (cd.fact 36 (f := .free "ValueError") rfl)⟩
  have g_TRAITS := He.glo_ok X G (cd.fact 37 (f := .glo "TRAITS") rfl)
  have g_OWN_WORTHS := He.glo_ok X G (cd.fact 38 (f := .glo "OWN_WORTHS") rfl)
  have g_DeckError := He.glo_ok X G (cd.fact 39 (f := .glo "DeckError") rfl)
  obtain ⟨t_g1, g1⟩ := He.str_ok X G (cd.fact 40 (f := .str "LETTERS" LETS) rfl)
  obtain ⟨t_g2, g2⟩ := He.str_ok X G (cd.fact 41 (f := .str "FIGURES" FIGS) rfl)
  obtain ⟨t_g3, g3⟩ := He.int_ok X G (cd.fact 42 (f := .int "LONGEST_NAME" 8) rfl)
  have mo := c.more
  unfold ex at mo
  simp only [Bool.and_eq_true] at mo
  obtain ⟨x1, x2, x3, x4, x5, x6⟩ := mo
  have C : TxtC K mg := ⟨fun x hx => He.glo_ok X G (List.all_eq_true.mp x2 x (List.contains_iff_mem.mp hx))⟩
  have N_NoMaster : ErW K mg "NoMaster" := ewB_ok x3 (C.cls _ (by decide +kernel)) (by decide +kernel)
  have N_NoPlace : ErW K mg "NoPlace" := ewB_ok x4 (C.cls _ (by decide +kernel)) (by decide +kernel)
  have N_NoTrait : ErW K mg "NoTrait" := ewB_ok x5 (C.cls _ (by decide +kernel)) (by decide +kernel)
  have tT : ∀ H, SqT K H (He.ga K "TRAITS") TR := fun H => He.tupB_ok (vs := [.str "left", .str "top", .str "wide", .str "high", .str "size", .str "ink"]) x1 H
  have O : OW K w := ownB_ok x6 (c.t.tab 0 (t := (fun K => He.ga K "OWN_WORTHS", TRS)) rfl)
  have b0 := F0.bindsN (ps := ["thing", "words"]) fun _ _ _ _ _ _ us hl => match us, hl with | [_, _], _ => rfl
  have b1 := F1.bindsN (ps := ["thing"]) fun _ _ _ _ _ _ us hl => match us, hl with | [_], _ => rfl
  have b2 := F2.bindsN (ps := ["thing"]) fun _ _ _ _ _ _ us hl => match us, hl with | [_], _ => rfl
  have b3 := F3.bindsN (ps := ["masters", "name"]) fun _ _ _ _ _ _ us hl => match us, hl with | [_, _], _ => rfl
  have b4 := F4.bindsN (ps := ["masters", "name"]) fun _ _ _ _ _ _ us hl => match us, hl with | [_, _], _ => rfl
  have b5 := F5.bindsN (ps := ["masters", "name"]) fun _ _ _ _ _ _ us hl => match us, hl with | [_, _], _ => rfl
  have b6 := F6.bindsN (ps := ["masters", "name"]) fun _ _ _ _ _ _ us hl => match us, hl with | [_, _], _ => rfl
  have b7 := F7.bindsN (ps := ["masters", "name", "place"]) fun _ _ _ _ _ _ us hl => match us, hl with | [_, _, _], _ => rfl
  have b8 := F8.bindsN (ps := ["said", "trait"]) fun _ _ _ _ _ _ us hl => match us, hl with | [_, _], _ => rfl
  have b9 := F9.bindsN (ps := ["masters", "name", "place", "trait"]) fun _ _ _ _ _ _ us hl => match us, hl with | [_, _, _, _], _ => rfl
  have b10 := F10.bindsN (ps := ["masters", "name", "place"]) fun _ _ _ _ _ _ us hl => match us, hl with | [_, _, _], _ => rfl
  have b11 := F11.bindsN (ps := ["script"]) fun _ _ _ _ _ _ us hl => match us, hl with | [_], _ => rfl
  have b12 := F12.bindsN (ps := ["pen", "many"]) fun _ _ _ _ _ _ us hl => match us, hl with | [_, _], _ => rfl
  have b13 := F13.bindsN (ps := ["pen", "many"]) fun _ _ _ _ _ _ us hl => match us, hl with | [_, _], _ => rfl
  have b14 := F14.bindsN (ps := ["pen"]) fun _ _ _ _ _ _ us hl => match us, hl with | [_], _ => rfl
  have b15 := F15.bindsN (ps := ["pen"]) fun _ _ _ _ _ _ us hl => match us, hl with | [_], _ => rfl
  have b16 := F16.bindsN (ps := ["pen", "trait"]) fun _ _ _ _ _ _ us hl => match us, hl with | [_, _], _ => rfl
  have b17 := F17.bindsN (ps := []) fun _ _ _ _ _ _ us hl => match us, hl with | [], _ => rfl
  have b18 := F18.bindsN (ps := ["pen", "name"]) fun _ _ _ _ _ _ us hl => match us, hl with | [_, _], _ => rfl
  have b19 := F19.bindsN (ps := ["pen", "most", "pool"]) fun _ _ _ _ _ _ us hl => match us, hl with | [_, _, _], _ => rfl
  have b20 := F20.bindsN (ps := ["masters", "name"]) fun _ _ _ _ _ _ us hl => match us, hl with | [_, _], _ => rfl
  have b21 := F21.bindsN (ps := ["masters", "name"]) fun _ _ _ _ _ _ us hl => match us, hl with | [_, _], _ => rfl
  have b22 := F22.bindsN (ps := ["e"]) fun _ _ _ _ _ _ us hl => match us, hl with | [_], _ => rfl
  have b23 := F23.bindsN (ps := ["way", "masters", "name", "place", "trait"]) fun _ _ _ _ _ _ us hl => match us, hl with | [_, _, _, _, _], _ => rfl
  have b24 := FunD.bindsA (ps := ["script"]) F24 fun _ _ _ _ _ _ us hl => match us, hl with | [_], _ => rfl
  refine ⟨fd24, [He.cT K ("is_name", none)], spLaw K (He.cT K ("is_name", none)).2, ?_, ?_, ?_, fun s v => b24 s [v] rfl, ?_, ?_⟩
  · intro p hp
    obtain ⟨d, hd, rfl⟩ := (List.mem_map.mp (show p ∈ tf.map (fun d => He.cT K d) from hp))
    exact c.empty d hd
  · intro p hp
    obtain ⟨d, hd, rfl⟩ := (List.mem_map.mp (show p ∈ tf.map (fun d => He.cT K d) from hp))
    exact c.out d hd
  · intro p hp
    obtain ⟨d, hd, rfl⟩ := (List.mem_map.mp (show p ∈ tf.map (fun d => He.cT K d) from hp))
    exact PySem.W.codeHd_of_K X (c.hd d hd)
  · intro H a ns hl _ hT hS
    exact ⟨a, ns, rfl, hS, hl, ⟨#[], hT _ (List.mem_cons_self), (by first | exact triples_nil | simp [TriplesOk])⟩, fun _ => rfl⟩
  · intro base _ _ hB
    have B0 := hB _ (List.mem_cons_self)
    have T0 : GxR.TabB base mg (He.codeOf K ("is_name", none)) (He.cT K ("is_name", none)).2 := ⟨B0.code, B0.bm, B0.gP⟩
    have D0 := dn F0 (He.glo_ok X G (cd.fact 0 (f := .glo "is_one_of") rfl)) b0 (ok_oneof (P := (PySem.Challenge.rw_mastershow_k07_refused_of_masters).prog) (w := w) (base := base) F0 T)
    have D1 := dn F1 (He.glo_ok X G (cd.fact 1 (f := .glo "is_name") rfl)) b1 (ok_name (P := (PySem.Challenge.rw_mastershow_k07_refused_of_masters).prog) (w := w) (base := base) F1 T T0 g1 g2 g3)
    have D2 := dn F2 (He.glo_ok X G (cd.fact 2 (f := .glo "is_trait") rfl)) b2 (ok_trait F2 g_TRAITS tT D0)
    have D3 := dnS F3 (He.glo_ok X G (cd.fact 3 (f := .glo "master_of") rfl)) b3 (ok_mof F3 T N_NoMaster.toEr D1)
    have D4 := dnS F4 (He.glo_ok X G (cd.fact 4 (f := .glo "masters_along") rfl)) b4 (ok_along F4 T D3)
    have D5 := dnS F5 (He.glo_ok X G (cd.fact 5 (f := .glo "chain_of") rfl)) b5 (ok_cof F5 T D4)
    have D6 := dnS F6 (He.glo_ok X G (cd.fact 6 (f := .glo "places_of") rfl)) b6 (ok_pof F6 T D4)
    have D7 := dnS F7 (He.glo_ok X G (cd.fact 7 (f := .glo "said_of") rfl)) b7 (ok_said F7 T N_NoPlace.toEr D1 D4)
    have D8 := dn F8 (He.glo_ok X G (cd.fact 8 (f := .glo "worth_said") rfl)) b8 (ok_wsaid (P := (PySem.Challenge.rw_mastershow_k07_refused_of_masters).prog) (w := w) (base := base) F8 T g_OWN_WORTHS O)
    have D9 := dnS F9 (He.glo_ok X G (cd.fact 9 (f := .glo "worth_by") rfl)) b9 (ok_wby F9 T N_NoTrait.toEr D2 D7 D8)
    have D10 := dnS F10 (He.glo_ok X G (cd.fact 10 (f := .glo "text_by") rfl)) b10 (ok_tby F10 T D7)
    have D11 := dn F11 (He.glo_ok X G (cd.fact 11 (f := .glo "_law_pen") rfl)) b11 (ok_pen (P := (PySem.Challenge.rw_mastershow_k07_refused_of_masters).prog) (w := w) (base := base) F11 T)
    have D12 := dn F12 (He.glo_ok X G (cd.fact 12 (f := .glo "_law_draw") rfl)) b12 (ok_draw (P := (PySem.Challenge.rw_mastershow_k07_refused_of_masters).prog) (w := w) (base := base) F12 T)
    have D13 := dn F13 (He.glo_ok X G (cd.fact 13 (f := .glo "_law_names") rfl)) b13 (ok_names F13 T D12)
    have D14 := dn F14 (He.glo_ok X G (cd.fact 14 (f := .glo "_law_line") rfl)) b14 (ok_lineL F14 T D12)
    have D15 := dn F15 (He.glo_ok X G (cd.fact 15 (f := .glo "_law_lines") rfl)) b15 (ok_linesL F15 T D12 D14)
    have D16 := dn F16 (He.glo_ok X G (cd.fact 16 (f := .glo "_law_worth") rfl)) b16 (ok_worthL F16 D12)
    have D17 := dn F17 (He.glo_ok X G (cd.fact 17 (f := .glo "_law_traits") rfl)) b17 (ok_traits (P := (PySem.Challenge.rw_mastershow_k07_refused_of_masters).prog) (w := w) (base := base) F17)
    have D18 := dn F18 (He.glo_ok X G (cd.fact 18 (f := .glo "_law_place") rfl)) b18 (ok_placeL F18 T D12 D15 D16 D17)
    have D19 := dn F19 (He.glo_ok X G (cd.fact 19 (f := .glo "_law_masters") rfl)) b19 (ok_masters F19 T D12 D13 D18)
    have D20 := dn F20 (He.glo_ok X G (cd.fact 20 (f := .glo "_law_chain") rfl)) b20 (ok_chainL (P := (PySem.Challenge.rw_mastershow_k07_refused_of_masters).prog) (w := w) (base := base) F20 T)
    have D21 := dn F21 (He.glo_ok X G (cd.fact 21 (f := .glo "_law_there") rfl)) b21 (ok_thereL F21 T D20)
    have D22 := dn F22 (He.glo_ok X G (cd.fact 22 (f := .glo "_law_word") rfl)) b22 (ok_word (P := (PySem.Challenge.rw_mastershow_k07_refused_of_masters).prog) (w := w) (base := base) F22 T C)
    have D23 := dn F23 (He.glo_ok X G (cd.fact 23 (f := .glo "_law_told") rfl)) b23 (ok_told F23 T g_DeckError N_NoMaster N_NoPlace N_NoTrait D5 D6 D10 D9 D22)
    exact ok_law F24 T D11 D12 D13 D19 D21 D23
end K7
open PySem PySem.W PySem.Calls PyProof.Rows
set_option maxRecDepth 100000 in
set_option maxHeartbeats 0 in
theorem PySem.Challenge.cw_mastershow_k07_refused_of_masters_holds : PySem.Challenge.rw_mastershow_k07_refused_of_masters.Holds := by
  w_on; o_law
  refine HandSHeadRun.head_any (r := OpenLaw.row PySem.Challenge.rw_mastershow_k07_refused_of_masters) (q := view (OpenLaw.row PySem.Challenge.rw_mastershow_k07_refused_of_masters).prog [60]) (H := K7.hk) (ob := K7.ob) (M := 20000) (loose := [("DeckError" : PySem.Str), ("NoDeck" : PySem.Str), ("NoMaster" : PySem.Str), ("NoSlide" : PySem.Str), ("NoPlace" : PySem.Str), ("NoTrait" : PySem.Str), ("NoWorth" : PySem.Str), ("NoSetting" : PySem.Str), ("NoName" : PySem.Str), ("Taken" : PySem.Str), ("TooMany" : PySem.Str), ("Ring" : PySem.Str), ("Used" : PySem.Str), ("NoRoom" : PySem.Str), ("NoSteps" : PySem.Str), ("NoPress" : PySem.Str), ("NoTime" : PySem.Str), ("NoShow" : PySem.Str), ("NoLink" : PySem.Str), ("NoNumber" : PySem.Str), ("NoWord" : PySem.Str), ("NoDeed" : PySem.Str), ("NoText" : PySem.Str), ("NoRow" : PySem.Str), ("is_one_of" : PySem.Str), ("TRAITS" : PySem.Str), ("OWN_WORTHS" : PySem.Str), ("LETTERS" : PySem.Str), ("FIGURES" : PySem.Str), ("LONGEST_NAME" : PySem.Str), ("is_name" : PySem.Str), ("is_trait" : PySem.Str), ("master_of" : PySem.Str), ("masters_along" : PySem.Str), ("chain_of" : PySem.Str), ("places_of" : PySem.Str), ("said_of" : PySem.Str), ("worth_said" : PySem.Str), ("worth_by" : PySem.Str), ("text_by" : PySem.Str), ("_law_pen" : PySem.Str), ("_law_draw" : PySem.Str), ("_law_names" : PySem.Str), ("_law_line" : PySem.Str), ("_law_lines" : PySem.Str), ("_law_worth" : PySem.Str), ("_law_traits" : PySem.Str), ("_law_place" : PySem.Str), ("_law_masters" : PySem.Str), ("_law_chain" : PySem.Str), ("_law_there" : PySem.Str), ("_law_set" : PySem.Str), ("_law_told_lines" : PySem.Str), ("_law_word" : PySem.Str), ("_law_told" : PySem.Str)]) (d := HandSHeadRun.topDef (OpenLaw.row PySem.Challenge.rw_mastershow_k07_refused_of_masters).prog 60) (kwd := []) K7.ob_eq
    (by kernel_rfl) (fun s => by kernel_rfl) K7.run (by kernel_rfl) (by kernel_rfl) (by kernel_rfl) (by rfl) (by first | assumption | decide +kernel) (by decide +kernel) ⟨rfl, rfl, rfl, rfl, rfl, by decide +kernel⟩ ?hw ?hc
  case hw => w_witness2
  case hc =>
    refine LamX.walk_ofTsE (l := PySem.Challenge.rw_mastershow_k07_refused_of_masters) (n := 63) (k := 7) (x := "script") (CX := fun _ => L2.CX0) rfl (by decide) (by kernel_rfl) ⟨rfl, by decide, by decide⟩ ?F (fun _ _ _ _ _ z => z)
    intro w mg fa h Y G hmg0
    obtain ⟨K, KX, c⟩ := Y
    have hmg : mg ("law" : PySem.Str) = some (.ref fa) := by
      have e : (HandSHeadRun.topDef (OpenLaw.row PySem.Challenge.rw_mastershow_k07_refused_of_masters).prog 60).name = ("law" : PySem.Str) := by kernel_rfl
      rw [← e]
      exact hmg0
    exact ⟨K, KX, K7.facts KX G hmg c⟩

