import PyProof.Rows.All
import Wide.All
import OpenK.AllK
import Wide.FinOn
import HandS.ForMost
import HandS.AnyAll
import HandS.IsInst
import HandS.Style
import HandS.Defaults
import HandS.Head0
import HandS.Head1
import HandS.Head2
import HandS.HeadEnd
import HandS.HeadHook1
import HandS.HeadHook2
import HandS.HeadHook3
import HandS.HeadHook4
import HandS.HeadWalk
import HandS.Exc
import HandS.ExcIs
import HandS.ExcOwn
import HandS.ExcValue
import HandS.SetFor
import HandS.Zip
import HandS.Walk
import PyProof.StrLawsReplace
import HandS.Text
import HandS.Lambda
import HandS.Words
import PySem.Challenge.RW_mastershow_k34_what_fits
import HandS.TupAny
set_option Elab.async false
set_option linter.all false
set_option maxRecDepth 100000
set_option maxHeartbeats 2000000
/-! all(test of sign for sign in text), the test over the module's own names -/
namespace Gx
open PySem PySem.Spec PyProof.Rows L2 GxR

/-- the element, in any frame of the generator, over the module as it stands -/
def EltG (X : Cx) (scope : Scope) (x : Str) (elt : Expr) (pb : Nat → Bool) : Prop :=
  ∀ (ge : Env) (B : Around) (F : Value → Shared → Prop) (c : Nat) (tk : Tok) (z : Shared) (m : Str → Option Value),
    ge.scope = scope → ge.globals = X.env.globals → z.heap.Ns ge.locals m → m x = some (.str ⟨#[c]⟩ tk) →
    (∀ b o, X.base.get? b = some o → z.heap.get? b = some o) → z.heap.Ns ge.globals X.mg →
    wpAny (model X.prog X.w) B (eval elt ge) (fun y z' => y = .bool (pb c) ∧ Keeps z z') F z

/-- x in G, G a text of the module's -/
theorem elt_inG {X : Cx} {scope : Scope} {x g : Str} {zs : Str} {tz : Tok} {p1 p2 p3 : Pos} (hk : scope.kind = .function) (hl : scope.names.lookup x = some .local)
    (hg : scope.names.lookup g = some .globalImplicit) (hm : X.mg g = some (.str zs tz)) (hd : (x == ("__debug__" : Str)) = false := by decide) (hd2 : (g == ("__debug__" : Str)) = false := by decide) :
    EltG X scope x (.Compare (.Name x p1) [.In] [.Name g p2] p3) (fun c => decide (c ∈ zs.cps.toList)) := by
  intro ge B F c tk z m hs hgl hn hx hb hN
  have kd : ge.scope.kind = .function := by rw [hs]; exact hk
  have kx : ge.scope.names.lookup x = some .local := by rw [hs]; exact hl
  have kg : ge.kindOf g = some .globalImplicit := (show ge.scope.names.lookup g = some .globalImplicit by rw [hs]; exact hg)
  refine wpAny_Compare1 ?_
  refine wpAny_Name (wpAny_loadName_local kd kx hn hx ?_) hd
  refine Calls.Name_function_global kd kg (Calls.loadGlobal_global hN hm ?_) hd2
  refine PyProof.Rows.in_str ?_
  exact ⟨congrArg Value.bool (PySem.StrLaws.found_one zs c), keeps_tok z z.toks⟩

/-- a or b -/
theorem elt_or {X : Cx} {scope : Scope} {x : Str} {a b : Expr} {pa pb : Nat → Bool} {p : Pos} (ha : EltG X scope x a pa) (hb : EltG X scope x b pb) :
    EltG X scope x (.BoolOp .Or [a, b] p) (fun c => pa c || pb c) := by
  intro ge B F c tk z m hs hgl hn hx hbs hN
  refine BoolOp_or (wpAny_mono (ha ge B F c tk z m hs hgl hn hx hbs hN) (fun v z1 hv => ?_) fun _ _ e => e)
  obtain ⟨rfl, h', t', rfl, kp⟩ := hv
  refine wpAny_truthy_bool ?_
  cases hp : pa c with
  | true =>
    refine ⟨?_, h', t', rfl, kp⟩
    show Value.bool true = Value.bool (pa c || pb c)
    rw [hp] <;> rfl
  | false =>
    refine BoolOp_one (wpAny_mono (hb ge B F c tk { z with heap := h', toks := t' } m hs hgl (hn.keeps kp) hx (fun q o e => kp q o (hbs q o e)) (hN.keeps kp)) (fun v z1 hv => ?_) fun _ _ e => e)
    obtain ⟨rfl, h2, t2, rfl, kp2⟩ := hv
    refine ⟨?_, h2, t2, rfl, fun q o e => kp2 q o (kp q o e)⟩
    show Value.bool (pb c) = Value.bool (pa c || pb c)
    rw [hp] <;> rfl

section
variable {X : Cx} {pins : List (Addr × Obj)} {σ : L2.St} {H : Hp} {s : Shared}
theorem gen_G {c P : Addr} {elt iter : Expr} {x : Str} {px gpos : Pos} {scope : Scope} {pb : Nat → Bool} {te : TE} {k : Nat} {W : Value → Shared → Prop} {R : Str → Hp → Prop}
    (room : Room k X.A) (tb : TabB X.base X.mg c P) (code : X.env.code = .ref c) (gs : GenS X.env scope x) (it : PE X iter te) (el : EltG X scope x elt pb)
    (fold : ∀ v, genFold iter X.env v = pure v) (I : Inv X pins σ H s) (h : te σ H fun v H1 => ∃ a : Str, v = .str a ∧ TabG H1 P ∧ R a H1)
    (fin : ∀ a H1 g s5, R a H1 → Ready X pins σ H1 P a pb g s5 → W (.ref g) s5) :
    wpAny (model X.prog X.w) X.A (eval (.GeneratorExp elt [⟨.Name x px, iter, [], 0⟩] scope gpos) X.env) W X.xe s := by
  refine wpAny_GeneratorExp_walksQ room.hd gs.co (closure_ok gs.free) gs.cell gs.dot gs.loc gs.kind (Nat.lt_of_le_of_lt (Nat.le_add_right X.A.depth (3 * k + 5)) (by have := room.dp; omega)) ?_ fold
  refine thn (it.run pins s σ H _ I h) ?_
  rintro xv s1 ⟨v, H1, J, rv, a, rfl, ⟨ps, tP, trip⟩, r⟩
  obtain ⟨t, rfl⟩ := _root_.id rv
  refine wpAny_pyIter_str fun o St walks st0 => ?_
  have atP := J.hok P _ tP
  have atP : s1.heap.get? P = some { cls := .none, data := .fields ps } := atP
  have ltP := Heap.lt_size atP
  have atP' : (s1.heap.push o).get? P = some { cls := .none, data := .fields ps } := Heap.get?_push_of_some _ atP
  have head := tb.code.keeps (h' := s1.heap.push o) fun b u e => Heap.get?_push_of_some _ (J.bk b u e)
  have lim := J.nolimit.push o
  have baseP : ∀ b u, X.base.get? b = some u → b ≠ P := fun b u e q => by
    have n := (J.bs b u e).2
    rw [q, tP] at n
    cases n
  have after : ∀ (cd : Value) (h3 : Heap) (tk : Nat) (ps' : Array Value), Heap.ExtBut P (s1.heap.push o) h3 → (s1.heap.push o).objs.size ≤ h3.objs.size → h3.get? P = some { cls := .none, data := .fields ps' } → (∃ more, ps' = ps ++ more) → TriplesOk ps'.toList →
      wpAny (model X.prog X.w) X.A (builtinsFor X.env.globals X.env.builtins) (fun bi s₄ =>
        ∃ Ia fp wr n₀ Pf St₀ pz F, Value.ref s1.heap.objs.size = .ref Ia ∧ (∀ A' : Around, A'.handled = none → Walks X.prog X.w A' Ia fp wr n₀ Pf St₀) ∧ St₀ 0 s₄.heap ∧ (∀ b ∈ fp, b < s₄.heap.objs.size) ∧ s₄.heap.NoLimit ∧ cStatics ∉ wr ∧
          (∀ href : Heap, (∀ b o, s₄.heap.get? b = some o → href.get? b = some o) →
            QuietGen X.prog X.w (genEnv scope (cloFrom X.env.cells scope.names []) s₄.heap.objs.size cd bi X.env) x [] elt (List.range s₄.heap.objs.size) wr Pf pz F href) ∧
          (∀ a h₅ tk gs, gs.bare = true → s₄.heap.objs.size < a → h₅.objs.size = a + 1 → (∀ b o, s₄.heap.get? b = some o → h₅.get? b = some o) →
            WalksS X.prog X.w X.A.in4 a (a :: s₄.heap.objs.size :: List.range s₄.heap.objs.size) (s₄.heap.objs.size :: wr) (GenOnlyQ s₄.gens.size) (passing pz n₀ 0).length
              (fun j y => ∃ i, (passing pz n₀ 0)[j]? = some i ∧ F i y) (GenAt X.prog X.w X.A.in4 a s₄.gens.size s₄.heap.objs.size (List.range s₄.heap.objs.size) wr pz n₀ F) →
            GenAt X.prog X.w X.A.in4 a s₄.gens.size s₄.heap.objs.size (List.range s₄.heap.objs.size) wr pz n₀ F 0 { s₄ with gens := s₄.gens.push gs, toks := tk, heap := h₅ } →
            W (.ref a) { s₄ with gens := s₄.gens.push gs, toks := tk, heap := h₅ })) X.xe { s1 with heap := h3, toks := tk } := by
    intro cd h3 tk ps' ext size atP3 grown trip3
    obtain ⟨bm, ob, e1, e2, e3, e4, e5, e6, e7, e8⟩ := tb.bm
    have statP : cStatics ≠ P := fun e => by
      obtain ⟨_, hns, _⟩ := J.nolimit
      obtain ⟨o', es, ep, ho, hd, _⟩ := hns
      rw [e, atP] at ho
      cases ho
      cases hd
    have statLt : cStatics < s1.heap.objs.size := let ⟨_, hns, _⟩ := J.nolimit; hns.lt
    have sz2 : (s1.heap.push o).objs.size = s1.heap.objs.size + 1 := Heap.size_push ..
    have kept : ∀ b u, b ≠ P → s1.heap.get? b = some u → h3.get? b = some u := fun b u hb e => ext b u hb (Heap.get?_push_of_some _ e)
    have glob3 : h3.Ns X.env.globals X.mg := by
      rw [J.ok.glob]
      exact ((J.mod.glob.keeps J.bk).push o).extBut ext tb.gP
    refine wpAny_builtinsFor (m := X.mg) glob3 e1 e2 (kept _ _ e4 (J.bk _ _ e5)) e6 e7 e8 ?_
    refine ⟨s1.heap.objs.size, [s1.heap.objs.size], [s1.heap.objs.size], a.cps.size, SignAt a, St, (fun _ => true), (fun i y => ∃ cc, a.cps[i]? = some cc ∧ y = .bool (pb cc)), rfl, walks, ?_, ?_, lim.extBut ext statP, ?_, ?_, ?_⟩
    · refine (walks X.A room.hd).frame _ _ _ st0 fun b hb u e => ext b u (fun z => ?_) e
      have q := List.mem_singleton.mp hb
      exact Nat.ne_of_lt ltP (z.symm.trans q)
    · intro b hb
      rw [List.mem_singleton.mp hb]
      show s1.heap.objs.size < h3.objs.size
      omega
    · intro z
      exact Nat.ne_of_lt statLt (List.mem_singleton.mp z)
    · intro href hhref
      have seen : ∀ s₂ : Shared, (∀ b ∈ List.range h3.objs.size, b ∉ [s1.heap.objs.size] → ∀ o, href.get? b = some o → s₂.heap.get? b = some o) → ∀ b u, b ≠ P → s1.heap.get? b = some u → s₂.heap.get? b = some u := fun s₂ hk b u hb e => by
        have l1 := Heap.lt_size e
        refine hk b (List.mem_range.mpr (Nat.lt_of_lt_of_le l1 (by omega))) (fun q => Nat.ne_of_lt l1 (List.mem_singleton.mp q)) u (hhref b u (kept b u hb e))
      refine ⟨fun A' E' i v s₂ m₂ hA hPv hn hm hk => ?_, fun A' E' i v s₂ m₂ hA hPv hp hn hm hk => ?_⟩
      · simp only [List.forIn_nil]
        exact wpAny_pure ⟨rfl, keeps_refl _⟩
      · obtain ⟨cc, u, hcc, rfl⟩ := hPv
        have gl2 : s₂.heap.Ns X.env.globals X.mg := by
          obtain ⟨og, es, ep, eg, dg, rg⟩ := J.mod.glob
          rw [J.ok.glob]
          exact ⟨og, es, ep, seen s₂ hk _ _ tb.gP (J.bk _ _ eg), dg, rg⟩
        exact wpAny_mono (el _ A' E' cc u s₂ m₂ rfl rfl hn hm (fun b o e => seen s₂ hk b o (baseP b o e) (J.bk b o e)) gl2) (fun y s3 r => ⟨⟨cc, hcc, r.1⟩, r.2⟩) fun _ _ e => e
    · intro g h5 tk5 gst hgb hag hsz5 hk5 W5 hat
      have ep : passing (fun _ : Nat => true) a.cps.size 0 = List.range a.cps.size := GxR.passing_true a.cps.size
      simp only [ep, List.length_range] at W5
      refine fin a H1 g _ r ⟨_, _, _, _, _, W5.in4_1, hat, ?_, fun s' hm => ?_⟩
      · intro j y sj Qj Ej hy hQj
        obtain ⟨i, hij, cc, hcc, rfl⟩ := hy
        obtain ⟨hj, ej⟩ := List.getElem?_eq_some_iff.mp hij
        rw [List.getElem_range] at ej
        subst ej
        have e9 : a.cps.toList[j]? = some cc := by rw [Array.getElem?_toList]; exact hcc
        have hQ2 : Qj (trF pb a.cps.toList j) sj := hQj
        rw [trF_some e9] at hQ2
        exact wpAny_truthy_bool hQ2
      · obtain ⟨more, em⟩ := grown
        have nwr : ∀ b u, s1.heap.get? b = some u → b ∉ h3.objs.size :: [s1.heap.objs.size] := fun b u e hb => by
          have hl := Heap.lt_size e
          rcases List.mem_cons.mp hb with z | z
          · have h9 : (h3.objs.size : Nat) < s1.heap.objs.size := by rw [z] at hl; exact hl
            omega
          · exact Nat.ne_of_lt hl (List.mem_singleton.mp z)
        have after := inv_tab (more := more) (h' := s'.heap) (g' := s'.gens) (d' := s'.drawn) (t' := s'.toks) J tP (fun b u hb e => hm.heap b u (nwr b u e) (hk5 b u (kept b u hb e)))
          (by rw [← em]; exact hm.heap P _ (nwr P _ atP) (hk5 P _ atP3)) (AllBare.movedS (J.bare.push hgb) hm)
        rw [sh_eta s1 s' hm.os] at after
        exact ⟨upd H1 P (.tbl (ps ++ more)), ⟨⟨ps ++ more, upd_same, by rw [← em]; exact trip3⟩, fun b hb => upd_ne hb⟩, after⟩
  refine ⟨lim, ?_⟩
  cases hf : codeAmong gpos ps.toList with
  | none =>
    refine wpAny_genexprCodeX code (head.code atP' trip) (head.tab atP') hf fun c' h' tk hx hge hlt hco' _ htab' _ => ?_
    obtain ⟨o1, vs, f1, tf, fl, tg, inF, tx, tt, op, _, _, _, _, _, _, _, _, _, htr, _⟩ := hco'
    exact after _ h' tk _ hx (Nat.le_trans hge (Nat.le_of_lt hlt)) htab'.2 ⟨_, rfl⟩ htr
  | some cv =>
    refine wpAny_genexprCode_hit code (head.code atP' trip) hf ?_
    exact after cv (s1.heap.push o) s1.toks ps (Heap.ExtBut.refl _ _) (Nat.le_refl _) atP' ⟨#[], by simp⟩ trip
theorem pe_allG {c P : Addr} {elt iter : Expr} {x : Str} {px p pos gpos : Pos} {scope : Scope} {pb : Nat → Bool} {te : TE} {k : Nat}
    (room : Room k X.A) (hg : Gl X "all") (hm : X.mg "all" = none) (tb : TabB X.base X.mg c P) (code : X.env.code = .ref c) (gs : GenS X.env scope x) (it : PE X iter te) (el : EltG X scope x elt pb)
    (fold : ∀ v, genFold iter X.env v = pure v := by intro _; rfl)
    (he : starEach [.GeneratorExp elt [⟨.Name x px, iter, [], 0⟩] scope gpos] X.env = (false, eval (.GeneratorExp elt [⟨.Name x px, iter, [], 0⟩] scope gpos) X.env) :: starEach [] X.env := by rfl) :
    PE X (.Call (.Name "all" p) [.GeneratorExp elt [⟨.Name x px, iter, [], 0⟩] scope gpos] [] pos) (tAllS P pb te) := by
  refine ⟨fun pins s σ H Q I h => ?_⟩
  refine wpAny_Call_Name_kw (ld_blt (u := .builtin "all") I hg hm (by decide +kernel) ?_)
  refine PyProof.Rows.callWith_builtin1 ?_ he (by rfl)
  rw [he]
  show wpAny _ _ (spliced ((false, eval (.GeneratorExp elt [⟨.Name x px, iter, [], 0⟩] scope gpos) X.env) :: backTo pos (starEach [] X.env))) _ _ s
  refine Calls.spliced_cons (gen_G (R := fun a H1 => ∀ H2, Tabbed P H1 H2 → Q (.bl (a.cps.toList.all pb)) H2) room tb code gs it el fold I h fun a H1 g s5 hR hG => ?_)
  obtain ⟨fp, wr, G, F, St, W, hst, htr, hI⟩ := hG
  refine Calls.spliced_nil ?_
  refine call_all_walkS (W.self 0 _ _ _ hst ⟨g, fp, wr, G, _, F, St, _, rfl, W, hst, htr, fun s' hmv => ?_⟩)
  obtain ⟨H2, hT, J⟩ := hI s' hmv
  refine ⟨.bl _, H2, J, rfl, ?_⟩
  rw [all_signs a pb]
  exact hR H2 hT
end
end Gx

set_option Elab.async false
set_option linter.all false
set_option maxRecDepth 100000
set_option maxHeartbeats 2000000
/-! What all these proofs share: a def by its name, kinds of things, the pen that draws. -/
namespace Gx
open PySem PySem.Spec PyProof.Rows L2 GxR
/-! ### a def of the module, by its name -/
structure Dn (P : Program) (w : World) (K : PySem.W.Frag) (mg : Str → Option Value) (base : Heap) (k : Nat) (x : Str) (ps : List Str) (sp : Sp) : Prop where
  ex : ∃ (f : Addr) (fd : FuncData), mg x = some (.ref f) ∧ PySem.W.keepIn K (.ref f) = true ∧ Binds K fd ps [] ∧ FnOk P w K mg base CX0 k f fd ps sp
section
variable {X : Cx} {k : Nat} {x : Str} {ps : List Str} {sp : Sp} {p pos : Pos} {e : Expr} {es : List Expr} {t : TA}
theorem pe_dn (D : Dn X.prog X.w X.K X.mg X.base k x ps sp) (hr : Room k X.A) (hg : Gl X x) (ha : PA X (e :: es) t) (hdb : (x == ("__debug__" : Str)) = false := by decide)
    (he : starEach (e :: es) X.env = (false, eval e X.env) :: starEach es X.env := by rfl) (hpl : (backTo pos (starEach es X.env)).any (·.1) = false := by rfl) :
    PE X (.Call (.Name x p) (e :: es) [] pos) (tCall sp [] E0 t) := by
  obtain ⟨f, fd, hm, hk, hb, F⟩ := D.ex
  exact pe_call F hr hg hm hk hb .nil pass0 ha hdb he hpl
theorem pe_dn0 (D : Dn X.prog X.w X.K X.mg X.base k x ps sp) (hr : Room k X.A) (hg : Gl X x) (hdb : (x == ("__debug__" : Str)) = false := by decide) :
    PE X (.Call (.Name x p) [] [] pos) (tCall sp [] E0 tNil) := by
  obtain ⟨f, fd, hm, hk, hb, F⟩ := D.ex
  exact pe_call0 F hr hg hm hk hb .nil pass0 hdb
end
section
variable {P : Program} {w : World} {K : PySem.W.Frag} {mg : Str → Option Value} {base : Heap}
/-- a def whose code object is told -/
theorem okC {x qual : Str} {params : Arguments} {body : List Stmt} {scope : Scope} {dvs : List V} {kws : List (Str × V)} {d : He.Defn} {fd : FuncData} {CX : CXT} {N ps : List Str} {k : Nat} {sp : Sp}
    (F : FunD K x qual params body scope dvs kws (He.fAd K d) fd) (S : FnScope N ps scope) (len : ∀ vs H Q E, sp vs H Q E → vs.length = ps.length)
    (hbody : ∀ (c : Value) (A : Around) (outer : List Env) (s : Shared) (H : Hp) (vs : List V) (Q : VK) (E : XK), c = .ref (He.codeOf K d) → Room k (A.deeper (envOfC qual scope s.heap.objs.size (He.fAd K d) c)) → sp vs H Q E →
      ∃ t, PSs (cxOf CX P w K mg base N qual scope (He.fAd K d) c A outer s H E) body t ∧ t { nx := fun _ H' => Q .non H', rt := Q } (start N vs) H) : FnOk P w K mg base CX (k + 1) (He.fAd K d) fd ps sp := by
  obtain ⟨oc, od, dV, kV, doc, pm, an, cdv, ct, osl, rfl, lk, hcd, _, _⟩ := F.ex
  obtain ⟨c, rfl⟩ := He.codeIn_ref hcd
  exact fn_of lk hcd S len fun A outer s H vs Q E hr hsp => hbody _ A outer s H vs Q E (congrArg Value.ref (He.codeOf_eq lk rfl).symm) hr hsp
end
theorem iteNb {b : Bool} {A B : Prop} (h1 : b = false → A) (h2 : b = true → B) : if (!b) = true then A else B := by
  cases b with
  | false => exact h1 rfl
  | true => exact iteF (h2 rfl)
theorem iteB {b : Bool} {A B : Prop} (h1 : b = true → A) (h2 : b = false → B) : if b = true then A else B := by
  cases b with
  | true => exact h1 rfl
  | false => exact iteF (h2 rfl)
theorem at_any {α : Type} {xs : List α} {z : Int} {j : Nat} {v : α} (e : z = (j : Int)) (h : xs[j]? = some v) : atI xs z = some v := by
  rw [e]
  exact atI_nat h
/-- two ways that meet again with some number -/
theorem viaInt {A : Prop} {R : Int → Prop} (h : (∀ c, R c) → A) (r : ∀ c, R c) : A := h r
section
variable {P : Program} {w : World} {K : PySem.W.Frag} {mg : Str → Option Value} {base : Heap} {x qual : Str} {params : Arguments} {body : List Stmt} {scope : Scope} {dvs : List V} {kws : List (Str × V)} {N ps : List Str} {k : Nat} {sp : Sp}
/-- a def that raises nothing -/
theorem okN {f : Addr} {fd : FuncData} {CX : CXT} (F : FunD K x qual params body scope dvs kws f fd) (S : FnScope N ps scope) (len : ∀ vs H Q E, sp vs H Q E → vs.length = ps.length)
    (hbody : ∀ (c : Value) (A : Around) (outer : List Env) (s : Shared) (H : Hp) (vs : List V) (Q : VK) (E : XK), Room k (A.deeper (envOfC qual scope s.heap.objs.size f c)) → sp vs H Q E →
      ∃ t, PSs (cxOf CX P w K mg base N qual scope f c A outer s H E).nox body t ∧ t { nx := fun _ H' => Q .non H', rt := Q } (start N vs) H) : FnOk P w K mg base CX (k + 1) f fd ps sp :=
  F.ok S len fun c A outer s H vs Q E hr h => let ⟨t, ht, q⟩ := hbody c A outer s H vs Q E hr h; ⟨t, ht.nox, q⟩
theorem okCN {d : He.Defn} {fd : FuncData} {CX : CXT} (F : FunD K x qual params body scope dvs kws (He.fAd K d) fd) (S : FnScope N ps scope) (len : ∀ vs H Q E, sp vs H Q E → vs.length = ps.length)
    (hbody : ∀ (c : Value) (A : Around) (outer : List Env) (s : Shared) (H : Hp) (vs : List V) (Q : VK) (E : XK), c = .ref (He.codeOf K d) → Room k (A.deeper (envOfC qual scope s.heap.objs.size (He.fAd K d) c)) → sp vs H Q E →
      ∃ t, PSs (cxOf CX P w K mg base N qual scope (He.fAd K d) c A outer s H E).nox body t ∧ t { nx := fun _ H' => Q .non H', rt := Q } (start N vs) H) : FnOk P w K mg base CX (k + 1) (He.fAd K d) fd ps sp :=
  okC F S len fun c A outer s H vs Q E hc hr h => let ⟨t, ht, q⟩ := hbody c A outer s H vs Q E hc hr h; ⟨t, ht.nox, q⟩
end
/-- a generator's scope that takes nothing from the def around it -/
theorem gs_plain {env : Env} {scope : Scope} {x : Str} (h1 : scope.kind = .function) (h2 : scope.isCoroutine = false) (h3 : scope.names.lookup (".0" : Str) = some NameKind.local) (h4 : scope.names.lookup x = some .local)
    (h5 : (scope.names.all fun y => decide (y.2 ≠ .cell) && decide (y.2 ≠ .free)) = true) : GenS env scope x := by
  have h6 := List.all_eq_true.mp h5
  refine ⟨h1, h2, fun y hy => ?_, h3, h4, fun y hy e => ?_⟩
  · have h7 := h6 y hy
    rw [Bool.and_eq_true] at h7
    exact of_decide_eq_true h7.1
  · have h7 := h6 y hy
    rw [Bool.and_eq_true] at h7
    exact absurd e (of_decide_eq_true h7.2)
/-! ### text * number -/
theorem op_mul_str {X : Cx} : OpR X (binaryOp .Mult) (fun x y H Q => ∃ (z : Str) (n : Int), x = .str z ∧ y = .int n ∧ MulOk z n ∧ Q (.str (Txt.mul z n)) H) := by
  intro pins s σ H x y v u Q I rx ry h
  obtain ⟨z, n, rfl, rfl, ok, q⟩ := h
  obtain ⟨t, rfl⟩ := rx
  obtain ⟨t', rfl⟩ := ry
  exact SB.mul ok fun t2 k => ⟨.str _, H, I.tok k, ⟨_, rfl⟩, q⟩
theorem mulOk {z : Str} {n : Int} (h1 : z.length ≤ 1000) (h2 : 0 ≤ n) (h3 : n ≤ 1000) : MulOk z n := by
  refine ⟨?_, fun h4 _ => ?_, fun h4 _ => ?_⟩
  · have a1 : ¬ n < -(2 ^ 63 : Int) := by omega
    have a2 : ¬ n ≥ 2 ^ 63 := by omega
    rw [decide_eq_false a1, decide_eq_false a2] <;> rfl
  · have h6 : (z.length : Int) * n ≤ 1000 * 1000 := Int.mul_le_mul (by omega) h3 h2 (by decide)
    have h5 : (z.length : Int) ≤ (2 ^ 63 - 1) / n := Int.le_ediv_of_mul_le (by omega) (by omega)
    omega
  · have h6 : z.length * n.toNat ≤ 1000 * 1000 := Nat.mul_le_mul h1 (by omega)
    show decide (z.length * n.toNat > sizeLine) = false
    exact decide_eq_false (by rw [sizeLine_eq]; omega)
/-! ### kinds of things -/
/-- a thing that the laws hand in: its type is known -/
inductive Th (H : Hp) : V → Prop where
  | non : Th H .non
  | bl (b : Bool) : Th H (.bl b)
  | int (i : Int) : Th H (.int i)
  | str (z : Str) : Th H (.str z)
  | lst {a : Addr} {xs : List V} (e : H a = some (.lst xs)) : Th H (.ref a)
  | tup {a : Addr} {xs : List V} (e : H a = some (.tup xs)) : Th H (.ref a)
  | dK {a : Addr} {kvs : List (Key × V)} (e : H a = some (.dK kvs)) : Th H (.ref a)
def isStr : V → Bool
  | .str _ => true
  | _ => false
def isBl : V → Bool
  | .bl _ => true
  | _ => false
theorem Th.str_ {K : PySem.W.Frag} {H : Hp} {v : V} (h : Th H v) : ∃ t, TyX K H v t ∧ PySem.W.kitOne K t (.type "str") = some (isStr v) := by
  cases h with
  | non => exact ⟨_, .base .non, kit_ty (r := false) (by decide +kernel)⟩
  | bl b => exact ⟨_, .base (.bl b), kit_ty (r := false) (by decide +kernel)⟩
  | int i => exact ⟨_, .base (.int i), kit_ty (r := false) (by decide +kernel)⟩
  | str z => exact ⟨_, .base (.str z), kit_ty (r := true) (by decide +kernel)⟩
  | lst e => exact ⟨_, .base (.lst e), kit_ty (r := false) (by decide +kernel)⟩
  | tup e => exact ⟨_, .base (.tup e), kit_ty (r := false) (by decide +kernel)⟩
  | dK e => exact ⟨_, .base (.dK e), kit_ty (r := false) (by decide +kernel)⟩
/-! ### names -/
def LETS : Str := "abcdefghijklmnopqrstuvwxyz"
def FIGS : Str := "0123456789"
def isLet (c : Nat) : Bool := decide (c ∈ LETS.cps.toList)
def isFig (c : Nat) : Bool := decide (c ∈ FIGS.cps.toList)
def nameB (z : Str) : Bool := decide (1 ≤ (z.length : Int)) && (decide ((z.length : Int) ≤ 8) && ((match z.cps.toList with
  | [] => false
  | c :: _ => isLet c) && z.cps.toList.all fun c => isLet c || isFig c))
def nameV : V → Bool
  | .str z => nameB z
  | _ => false
theorem nameV_no {v : V} (h : isStr v = false) : nameV v = false := by
  cases v <;> first | rfl | cases h
theorem cps_len (z : Str) : z.cps.toList.length = z.length := by simp [Str.length]
theorem head_of {z : Str} (h : 1 ≤ (z.length : Int)) : ∃ c r, z.cps.toList = c :: r := by
  have hl := cps_len z
  cases e : z.cps.toList with
  | nil =>
    rw [e] at hl
    have h1 : (0 : Nat) = z.length := hl
    omega
  | cons c r => exact ⟨c, r, rfl⟩
theorem all_id {l : List Nat} {pb : Nat → Bool} : (l.map pb).all id = l.all pb := by
  rw [List.all_map] <;> rfl
theorem both_lets (c : Nat) : decide (c ∈ (LETS ++ FIGS).cps.toList) = (isLet c || isFig c) := by
  have e : (LETS ++ FIGS).cps.toList = LETS.cps.toList ++ FIGS.cps.toList := by
    show (LETS.cps ++ FIGS.cps).toList = _
    rw [Array.toList_append]
  unfold isLet isFig
  rw [e, Bool.eq_iff_iff, decide_eq_true_eq, List.mem_append, Bool.or_eq_true, decide_eq_true_eq, decide_eq_true_eq]
/-- a list over a text's signs -/
theorem lc_str {z : Str} {g : TG} {tt : TT} {te : TE} {vs : List Nat} {σ : L2.St} {H1 : Hp} {D : Addr} {Qd : Hp → Prop} (Pv : Nat → Hp → Prop) (h0 : Pv 0 (upd H1 D (.lst [])))
    (hs : ∀ i c H, z.cps.toList[i]? = some c → Pv i H → g (.str ⟨#[c]⟩) (wipe σ vs) H fun σ2 H2 => wipe σ2 vs = wipe σ vs ∧ tt σ2 H2 fun b H3 =>
      if b = true then te σ2 H3 fun y H4 => ∃ acc, H4 D = some (.lst acc) ∧ acc.length < sizeLine ∧ Pv (i + 1) (upd H4 D (.lst (acc ++ [y]))) else Pv (i + 1) H3) (hd : ∀ H, Pv z.cps.toList.length H → Qd H) :
    ∃ W : Nat → Nat → Hp → Prop, (∃ m, W 0 m (upd H1 D (.lst []))) ∧ ∀ i m H, W i m H →
      ((Its z).stop i H ∧ Qd H) ∨ ((Its z).go i H ∧ ∃ Nx : Hp → Prop, (∀ H', Nx H' → ∃ m', m' < m ∧ W (i + 1) m' H') ∧ ∀ x H', (Its z).yld i H x H' → g x (wipe σ vs) H' fun σ2 H2 => wipe σ2 vs = wipe σ vs ∧ tt σ2 H2 fun b H3 =>
        if b = true then te σ2 H3 fun y H4 => ∃ acc, H4 D = some (.lst acc) ∧ acc.length < sizeLine ∧ Nx (upd H4 D (.lst (acc ++ [y]))) else Nx H3) := by
  have el : z.cps.toList.length = z.cps.size := Array.length_toList
  refine ⟨fun i m H => m = z.cps.size - i ∧ i ≤ z.cps.size ∧ Pv i H, ⟨_, rfl, Nat.zero_le _, h0⟩, ?_⟩
  rintro i m H ⟨rfl, hi, pv⟩
  rcases Nat.lt_or_ge i z.cps.size with lt | ge
  · refine .inr ⟨lt, Pv (i + 1), fun H' q => ⟨_, Nat.sub_succ_lt_self _ _ lt, rfl, lt, q⟩, ?_⟩
    rintro x H' ⟨rfl, c, ec, rfl⟩
    exact hs i c _ (by rw [Array.getElem?_toList]; exact ec) pv
  · obtain rfl : i = z.cps.size := Nat.le_antisymm hi ge
    exact .inl ⟨Nat.le_refl _, hd H (by rw [el]; exact pv)⟩
theorem bls_take {l : List Nat} {pb : Nat → Bool} {i c : Nat} (h : l[i]? = some c) : (l.take (i + 1)).map pb = (l.take i).map pb ++ [pb c] := by
  rw [List.take_add_one, h, List.map_append] <;> rfl
/-! ### the pen -/
structure Pen (H : Hp) (p L : Addr) (ns : List Int) (n : Nat) : Prop where
  at_ : ∃ a r : Int, H p = some (.lst [.ref L, .int a, .int r]) ∧ 0 ≤ a ∧ a ≤ n
  ls : H L = some (.lst (ns.map V.int))
  few : ns.length ≤ 63
theorem Pen.ne {H : Hp} {p L : Addr} {ns : List Int} {n : Nat} (h : Pen H p L ns n) : p ≠ L := by
  intro e
  obtain ⟨a, r, h1, _⟩ := h.at_
  have h2 := h.ls
  rw [← e, h1] at h2
  have h3 := HO.lst.inj (Option.some.inj h2)
  cases ns with
  | nil => cases h3
  | cons z r => cases (List.cons.inj h3).1
theorem Pen.up {H : Hp} {p L : Addr} {ns : List Int} {n m : Nat} (h : Pen H p L ns n) (hm : n ≤ m) : Pen H p L ns m := by
  obtain ⟨⟨a, r, h1, h2, h3⟩, h4, h5⟩ := h
  exact ⟨⟨a, r, h1, h2, by omega⟩, h4, h5⟩
/-- set anew -/
theorem Pen.put {H : Hp} {p L : Addr} {ns : List Int} {n m : Nat} {a r : Int} (h : Pen H p L ns n) (h1 : 0 ≤ a) (h2 : a ≤ m) : Pen (upd H p (.lst [.ref L, .int a, .int r])) p L ns m :=
  ⟨⟨a, r, upd_same, h1, h2⟩, by rw [upd_ne h.ne.symm]; exact h.ls, h.few⟩
theorem Pen.keep {H H' : Hp} {p L : Addr} {ns : List Int} {n : Nat} (h : Pen H p L ns n) (hp : H' p = H p) (hl : H' L = H L) : Pen H' p L ns n := by
  obtain ⟨⟨a, r, h1, h2, h3⟩, h4, h5⟩ := h
  exact ⟨⟨a, r, by rw [hp]; exact h1, h2, h3⟩, by rw [hl]; exact h4, h5⟩
theorem Pen.keep' {H H' : Hp} {p L : Addr} {ns : List Int} {n : Nat} (h : Pen H p L ns n) (k : Same H H') : Pen H' p L ns n := by
  obtain ⟨⟨a, r, h1, h2, h3⟩, h4, h5⟩ := h
  exact ⟨⟨a, r, k _ _ h1, h2, h3⟩, k _ _ h4, h5⟩
/-- only the pen has changed -/
def But (p : Addr) (H H' : Hp) : Prop := ∀ b, b ≠ p → H' b = H b
theorem But.refl {p : Addr} {H : Hp} : But p H H := fun _ _ => rfl
theorem But.trans {p : Addr} {H H1 H2 : Hp} (a : But p H H1) (b : But p H1 H2) : But p H H2 := fun c h => (b c h).trans (a c h)
theorem But.upd {p : Addr} {H : Hp} {o : HO} : But p H (upd H p o) := fun _ h => upd_ne h
theorem strAt {z : Str} {k : Int} (h0 : 0 ≤ k) (h1 : k < (z.length : Int)) : ∃ c, atI z.cps.toList k = some c := by
  obtain ⟨j, rfl⟩ : ∃ j : Nat, k = (j : Int) := ⟨_, (Int.toNat_of_nonneg h0).symm⟩
  have hj : j < z.cps.toList.length := by rw [cps_len]; omega
  exact ⟨_, atI_nat (List.getElem?_eq_getElem hj)⟩
theorem listAt {xs : List V} {k : Int} (h0 : 0 ≤ k) (h1 : k < (xs.length : Int)) : ∃ v, atI xs k = some v ∧ v ∈ xs := by
  obtain ⟨j, rfl⟩ : ∃ j : Nat, k = (j : Int) := ⟨_, (Int.toNat_of_nonneg h0).symm⟩
  have hj : j < xs.length := by omega
  exact ⟨_, atI_nat (List.getElem?_eq_getElem hj), List.getElem_mem hj⟩
/-- what was tracked, but for the pen, is as it was -/
def Kp (p : Addr) (H H' : Hp) : Prop := ∀ b o, H b = some o → b ≠ p → H' b = some o
theorem Kp.refl {p : Addr} {H : Hp} : Kp p H H := fun _ _ h _ => h
theorem Kp.trans {p : Addr} {H H1 H2 : Hp} (a : Kp p H H1) (b : Kp p H1 H2) : Kp p H H2 := fun c o h n => b c o (a c o h n) n
theorem But.kp {p : Addr} {H H' : Hp} (a : But p H H') : Kp p H H' := fun b o h n => (a b n).trans h
theorem Kp.new {p D : Addr} {H : Hp} {o : HO} (h : H D = none) : Kp p H (upd H D o) := fun b u e _ => by rw [upd_ne (ne_of_none e h)]; exact e
theorem Pen.new {H : Hp} {p L D : Addr} {ns : List Int} {n : Nat} {o : HO} (h : Pen H p L ns n) (hD : H D = none) : Pen (upd H D o) p L ns n := by
  obtain ⟨a, r, h1, _⟩ := h.at_
  exact h.keep (upd_ne (ne_of_none h1 hD)) (upd_ne (ne_of_none h.ls hD))
theorem Pen.lt_new {H : Hp} {p L D : Addr} {ns : List Int} {n : Nat} (h : Pen H p L ns n) (hD : H D = none) : D ≠ p := by
  obtain ⟨a, r, h1, _⟩ := h.at_
  exact (ne_of_none h1 hD).symm
theorem cut63 {xs : List V} (h : xs.length ≤ 63) : cutV xs none (some 63) = xs := by
  unfold cutV
  rw [HT.sIx_none, show HT.sIx xs.length xs.length (some 63) = min 63 xs.length from HT.sIx_nat xs.length xs.length 63, Nat.min_eq_right h, Nat.sub_zero, List.drop_zero]
  exact List.take_length
theorem len_add (a b : Str) : (a ++ b).length = a.length + b.length := by
  show (a.cps ++ b.cps).size = _
  rw [Array.size_append] <;> rfl
theorem len_one (c : Nat) : (⟨#[c]⟩ : Str).length = 1 := rfl
theorem ones_sum : ∀ {ys : List Str}, (∀ y ∈ ys, y.length = 1) → (ys.map (·.length)).sum = ys.length
  | [], _ => rfl
  | y :: r, h => by
    have ih := ones_sum (ys := r) fun z hz => h z (List.mem_cons_of_mem _ hz)
    have h1 := h y List.mem_cons_self
    show (y.length :: r.map (·.length)).sum = r.length + 1
    rw [List.sum_cons, ih, h1]
    omega
theorem ones_join {ys : List Str} (h : ∀ y ∈ ys, y.length = 1) : (Txt.join ("" : Str) ys).length ≤ ys.length := by
  have h2 := StrLaws.join_length_le ("" : Str) ys
  rw [ones_sum h, show ("" : Str).length = 0 by decide +kernel, Nat.mul_zero, Nat.add_zero] at h2
  rw [show Txt.join ("" : Str) ys = Str.join ("" : Str) ys from StrLaws.glued_eq_join ("" : Str) ys]
  exact h2
theorem mul_len {z : Str} (h : z.length ≤ 20) : (Txt.mul z 2).length ≤ 40 := by
  unfold Txt.mul
  rw [if_neg (by decide)]
  split
  · omega
  · show ((List.replicate 2 z.cps).foldl (· ++ ·) #[]).size ≤ 40
    show ((#[] ++ z.cps) ++ z.cps).size ≤ 40
    rw [Array.size_append, Array.size_append]
    have h2 : z.cps.size ≤ 20 := h
    show 0 + z.cps.size + z.cps.size ≤ 40
    omega
/-- what was tracked, but for a table, is as it was -/
theorem Th.kt {H H' : Hp} {P' : Addr} {v : V} (h : Th H v) (g : TabG H P') (k : ∀ b o, H b = some o → b ≠ P' → H' b = some o) : Th H' v := by
  obtain ⟨ps, g, _⟩ := g
  cases h with
  | non => exact .non
  | bl b => exact .bl b
  | int i => exact .int i
  | str z => exact .str z
  | lst e => exact .lst (k _ _ e (ne_of e g (fun q => by cases q)))
  | tup e => exact .tup (k _ _ e (ne_of e g (fun q => by cases q)))
  | dK e => exact .dK (k _ _ e (ne_of e g (fun q => by cases q)))
theorem tabbedKt {P' : Addr} {H H' : Hp} (h : Tabbed P' H H') : ∀ b o, H b = some o → b ≠ P' → H' b = some o := fun b o e n => (h.2 b n).trans e
theorem Pen.kt {H H' : Hp} {p L P' : Addr} {ns : List Int} {n : Nat} (h : Pen H p L ns n) (g : TabG H P') (k : ∀ b o, H b = some o → b ≠ P' → H' b = some o) : Pen H' p L ns n := by
  obtain ⟨ps, g, _⟩ := g
  obtain ⟨⟨a, r, h1, h2, h3⟩, h4, h5⟩ := h
  exact ⟨⟨a, r, k _ _ h1 (ne_of h1 g (fun q => by cases q)), h2, h3⟩, k _ _ h4 (ne_of h4 g (fun q => by cases q)), h5⟩
theorem tabSame {P' : Addr} {H H' : Hp} (g : TabG H P') (k : Same H H') : TabG H' P' := by
  obtain ⟨ps, g, t⟩ := g
  exact ⟨ps, k _ _ g, t⟩
theorem tabKp {p P' : Addr} {H H' : Hp} {a : List V} (g : TabG H P') (hp : H p = some (.lst a)) (k : Kp p H H') : TabG H' P' := by
  obtain ⟨ps, g, t⟩ := g
  exact ⟨ps, k _ _ g (ne_of g hp (fun q => by cases q)), t⟩
theorem Pen.tab {H H' : Hp} {p L P' : Addr} {ns : List Int} {n : Nat} (h : Pen H p L ns n) (g : TabG H P') (k : Kp p H H') : TabG H' P' := by
  obtain ⟨a, r, h1, _⟩ := h.at_
  exact tabKp g h1 k
theorem same_new {D : Addr} {H : Hp} {o : HO} (h : H D = none) : Same H (upd H D o) := fun b u e => by rw [upd_ne (ne_of_none e h)]; exact e
theorem sameKp {p : Addr} {H H' : Hp} (h : Same H H') : Kp p H H' := fun b o e _ => h b o e
/-- a thing of known type, a text that is not too long -/
def Ok1 (H : Hp) (v : V) : Prop := Th H v ∧ ∀ z, v = .str z → z.length ≤ sizeLine
theorem Th.same {H H' : Hp} {v : V} (h : Th H v) (k : Same H H') : Th H' v := by
  cases h with
  | non => exact .non
  | bl b => exact .bl b
  | int i => exact .int i
  | str z => exact .str z
  | lst e => exact .lst (k _ _ e)
  | tup e => exact .tup (k _ _ e)
  | dK e => exact .dK (k _ _ e)
theorem ok_str {H : Hp} {z : Str} (h : z.length ≤ sizeLine) : Ok1 H (.str z) := ⟨.str z, fun _ e => by cases e; exact h⟩
theorem ok_ref {H : Hp} {a : Addr} (h : Th H (.ref a)) : Ok1 H (.ref a) := ⟨h, fun _ e => nomatch e⟩
def spDraw : Sp := fun vs H Q _ => ∃ (p L : Addr) (ns : List Int) (n : Nat) (many : Int), vs = [.ref p, .int many] ∧ Pen H p L ns n ∧ 0 < many ∧ many < 1000000 ∧ n < 1000000 ∧
  ∀ (k : Int) (H' : Hp), 0 ≤ k → k < many → Pen H' p L ns (n + 1) → But p H H' → Q (.int k) H'
end Gx

set_option Elab.async false
set_option linter.all false
set_option maxRecDepth 100000
set_option maxHeartbeats 2000000
/-! Errors that are caught and kept behind the suite: isinstance of them. -/
namespace Gc
open PySem PySem.Spec PyProof.Rows L2 GxR Gx
/-- a caught error, kept as a value -/
def ExK (cls : Value) (d : Option Addr) (a : Addr) : HO := .ext fun h => ∃ (oe : Obj) (vs : Array Value), h.get? a = some oe ∧ Zc cls d oe ∧ oe.data = .fields vs
section
variable {X : Cx} {pins : List (Addr × Obj)} {σ : L2.St} {H : Hp} {s : Shared}
/-- an object that the def's entry didn't know may be tracked from now on -/
theorem track {a : Addr} {oe : Obj} {vs : Array Value} {cls : Value} {d : Option Addr} (I : Inv X pins σ H s) (ho : s.heap.get? a = some oe) (hz : Zc cls d oe) (hd : oe.data = .fields vs) (hn : H a = none) (h0 : X.s_0.heap.get? a = none)
    (nL : a ≠ X.env.locals) (nP : ∀ p ∈ X.pn ++ pins, p.1 ≠ a) : Inv X pins σ (upd H a (ExK cls d a)) s := by
  have other : ∀ {b : Addr} {u : HO}, H b = some u → upd H a (ExK cls d a) b = some u := fun {b u} e => by rw [upd_ne (ne_of_none e hn)]; exact e
  have away : ∀ {b : Addr}, b ≠ a → H b = none → upd H a (ExK cls d a) b = none := fun {b} n e => by rw [upd_ne n]; exact e
  refine ⟨I.ok, I.os, I.bare, ⟨I.base.keep, I.base.slot, fun b o e n hx => ?_, I.base.there, fun b xs e => other (I.base.tups b xs e), fun b o u e => other (I.base.frzs b o u e), fun b ps e => ?_⟩, I.loc, I.cell, away nL.symm I.free, fun x c e => ?_, fun p hp => ?_, fun b u e => ?_, I.len⟩
  · refine away (fun z => ?_) (I.base.free b o e n hx)
    rw [z, h0] at e
    cases e
  · obtain ⟨m, q⟩ := I.base.tbls b ps e
    exact ⟨m, other q⟩
  · refine away (fun z => ?_) (I.freeC x c e)
    obtain ⟨v, o, q, dc⟩ := I.cell x c e
    rw [z, ho] at q
    cases q
    rw [hd] at dc
    cases dc
  · obtain ⟨e, n, r⟩ := I.pin p hp
    exact ⟨e, away (nP p hp) n, r⟩
  · by_cases hb : b = a
    · rw [hb, upd_same] at e
      cases e
      rw [hb]
      exact ⟨⟨oe, vs, ho, hz, hd⟩, ⟨oe, ho⟩, fun h1 h2 ⟨o, v, q, r⟩ k => ⟨o, v, k o q, r⟩⟩
    · rw [upd_ne hb] at e
      exact (I.hok b u e).stay (fun c v _ q => q) (fun c q => other q) fun c xs q => other q
/-- what 'except x as n' wishes, the error kept -/
def wHold (K : PySem.W.Frag) (c : Value) (i : Nat) (ts : Addr → Value → Option Addr → TS) (Wout : WX) (D : Ends) : WX := fun cls d σ H =>
  ∃ b, PySem.W.exmOne K cls c = some b ∧ (b = true → ∀ a, H a = none → ts a cls d { nx := fun σ' H' => D.nx (σ'.set i none) (upd H' a (ExK cls d a)), rt := D.rt, bk := fun σ' H' => D.bk (σ'.set i none) (upd H' a (ExK cls d a)), ct := fun σ' H' => D.ct (σ'.set i none) (upd H' a (ExK cls d a)) } (σ.set i (some (.ref a))) H) ∧
    (b = false → Wout cls d σ H)
end
section
variable {X : Cx} {x n : Str} {c : Value} {i : Nat} {body suite : List Stmt} {b₀ : Stmt} {np pos pos' : Pos} {tb : WX → TS} {ts : Addr → Value → Option Addr → TS} {Wout : WX}
theorem ps_try_hold (hex : X.ex = []) (hs : X.stack = X.env :: X.outer) (hf : X.env.frame = some X.env.locals) (hN : X.N.Nodup) (hi : X.N[i]? = some n) (hln : X.env.kindOf n = some .local) (hc : Names X x c) (tk : Takes X Wout)
    (hb : ∀ (W : WX) (pn : List (Addr × Obj)) (xe : Value → Shared → Prop), Takes (X.tr pn xe) W → PassesOwn (model X.prog X.w) X.A X.env xe → PSs (X.tr pn xe) body (tb W))
    (hsu : ∀ (a : Addr) (oe : Obj) (cls : Value) (d : Option Addr) (pn : List (Addr × Obj)), Zc cls d oe → (∃ vs, oe.data = .fields vs) → PSs (X.suite a ((a, oe) :: pn)) (b₀ :: suite) (ts a cls d)) :
    PS X (.Try body [.ExceptHandler (some (.Name x np)) (some n) (b₀ :: suite) pos'] [] [] pos) (fun D σ H => tb (wHold X.K c i ts Wout D) D σ H) := by
  refine ⟨fun pins s σ H D I h => wpAny_Try_except (wpAny_mono ((hb (wHold X.K c i ts Wout D) (X.pn ++ pins) (fun e s₁ => wpAny (model X.prog X.w) X.A (noteFrame e X.env) (fun _ s₂ => wpAny (model X.prog X.w) X.A (setFlight e none) (fun _ s₃ =>
    wpAny (model X.prog X.w) X.A (handleBy e X.env [.ExceptHandler (some (.Name x np)) (some n) (b₀ :: suite) pos']) (SP X pins D) X.xe s₃) X.xe s₂) X.xe s₁) (fun u s' z => ?_) PassesOwn.looking).run [] s σ H D (I.toTry _) h) (fun f s1 q => ?_) fun _ _ z => z)⟩
  · have ok := I.ok
    have hfr : X.A.frames = some (X.env :: X.outer) := by rw [ok.frames, hs]
    obtain ⟨a, B, sI, pins', σ', H', cls, d, rfl, J', nb, up, sky, na, os, ag, b, hb1, hyes, hno⟩ := z
    have J : Inv X pins σ' H' sI := J'.ofTry ok
    rw [show (X.tr (X.pn ++ pins) _).stack = X.env :: X.outer from hs] at sky
    show wpAny (model X.prog X.w) X.A (noteFrame (.ref a) X.env) _ _ _
    refine Sky.land Zc.steady hfr hf sky fun h3 fl up3 => ?_
    have J3 : Inv X pins σ' H' { s' with heap := h3 } := J.landed nb fl.1 (up.trans up3) os ag
    obtain ⟨oe, vs, he, hz, hd⟩ := fl.there
    have nfr : a ∉ frs (X.env :: X.outer) := fun hm => by
      obtain ⟨_, o, e, hnf⟩ := fl.2.2.1.mem hm
      cases he.symm.trans e
      exact hnf _ hd
    have nL : a ≠ X.env.locals := fun z => nfr (List.mem_filterMap.mpr ⟨X.env, List.mem_cons_self, by rw [hf, z]⟩)
    have nF : a ∉ X.fs := fun hm => by
      obtain ⟨e, he, q⟩ := List.mem_filterMap.mp hm
      exact nfr (List.mem_filterMap.mpr ⟨e, List.mem_cons_of_mem _ he, q⟩)
    -- the error's object is new since the def's entry
    have nI : sI.heap.get? a = none := by
      cases q : sI.heap.get? a with
      | none => rfl
      | some o =>
        have z := nb a o q (by show a ∉ frs X.stack; rw [hs]; exact nfr)
        rw [fl.2.1] at z
        cases z
    have n0 : X.s_0.heap.get? a = none := by
      cases q : X.s_0.heap.get? a with
      | none => rfl
      | some o =>
        obtain ⟨o', z⟩ := J.base.there a o q (by rw [hex]; exact fun z => nomatch z)
        cases nI.symm.trans z
    have nP : ∀ p ∈ X.pn ++ pins, p.1 ≠ a := fun p hp z => by
      have e := (J.pin p hp).1
      rw [z, nI] at e
      cases e
    have S3 := J3.suite he hd na nL nF
    refine wpAny_handleBy_cons (codeAny_handlers_test ?_) (by intro q; cases q)
    have LT : PySem.W.Looks (model X.prog X.w) h3 (typeOf (.ref a)) cls := fun A Q E s k q => wpAny_typeOf_ref (k _ _ he) (by rw [hz.1]; exact q)
    have LM := PySem.W.exm_one (M := model X.prog X.w) J3.kIn LT hb1
    have test : ∀ {Q : Value → Shared → Prop} {E : Value → Shared → Prop}, Q c { s' with heap := h3 } → wpAny (model X.prog X.w) (X.A.mark (some (.ref a))) (eval (.Name x np) X.env) Q E { s' with heap := h3 } := fun {Q E} q => by
      obtain ⟨hg, hdbg, hm | ⟨hm, hv, hnn⟩⟩ := hc
      · exact ld_glob (X := X.suite a ((a, oe) :: (X.pn ++ pins))) S3 hg hm q hdbg
      · exact ld_blt (X := X.suite a ((a, oe) :: (X.pn ++ pins))) S3 hg hm hv q hnn hdbg
    refine test (LM.here ?_)
    cases b with
    | false =>
      -- it goes on
      refine wpAny_handleBy_nil ?_
      obtain ⟨_, _, _, o1, w1, T, _, _, e1, _, d1, t1, _⟩ := id fl
      unfold PySem.passOn
      refine wpAny_bind (wpAny_field e1 d1 t1 ?_)
      rw [if_neg (show ¬ ((Value.ref T == Value.none) = true) from by simp)]
      have fin : wpAny (model X.prog X.w) X.A (setFlight (.ref a) X.env.frame) (fun _ s4 => wpAny (model X.prog X.w) X.A (throw (.ref a) : Sem Flow) (SP X pins D) X.xe s4) X.xe { s' with heap := h3 } := by
        rw [hf]
        exact HandSPX.setFlight_upZ fl fun h4 hh up4 => wpAny_throw (tk _ _ ⟨a, B, sI, pins, σ', H', cls, d, rfl, J, nb, (up.trans up3).trans up4, .inr (.inr (by rw [hs]; exact hh)), na, os, ag, hno rfl⟩)
      first
        | exact wpAny_bind (wpAny_pure (wpAny_bind fin))
        | exact wpAny_bind fin
    | true =>
      -- it is held in the suite, and tracked behind it
      refine codeAny_handlers_suite_as (HandSPX.lands_againZ fl fun h4 fl4 up4 => ?_)
      have J4 : Inv X pins σ' H' { s' with heap := h4 } := J.landed nb fl4.1 ((up.trans up3).trans up4) os ag
      obtain ⟨o4, v4, e4, z4, d4⟩ := fl4.there
      refine store_ok (X := X.suite a ((a, o4) :: (X.pn ++ pins))) (v := .ref a) (J4.suite e4 d4 na nL nF) hN hi (.inl hln) rfl (fun s5 S5 => ?_) (.inr hln)
      refine wpAny_mono ((hsu a o4 cls d (X.pn ++ pins) z4 ⟨_, d4⟩).run [] s5 _ H' _ S5 (hyes rfl a na)) (fun f s6 hsp => ?_) (fun _ _ z => False.elim z)
      have done : ∀ {σ6 : L2.St} {H6 : Hp} {Q : Shared → Prop}, Inv (X.suite a ((a, o4) :: (X.pn ++ pins))) [] σ6 H6 s6 → (∀ s7, Inv X pins (σ6.set i none) H6 s7 → Inv X pins (σ6.set i none) (upd H6 a (ExK cls d a)) s7 → Q s7) →
          wpAny (model X.prog X.w) X.A (do bindName X.env n .none; unbindBehindTheSuite X.env n pos') (fun _ s7 => Q s7) X.xe s6 := fun {σ6 H6 Q} S6 hq =>
        gone_ok (X := X.suite a ((a, o4) :: (X.pn ++ pins))) S6 hN hi hln fun s7 S7 => by
          obtain ⟨e7, n7, _⟩ := S7.pin (a, o4) (List.mem_append_left _ List.mem_cons_self)
          have J7 : Inv X pins (σ6.set i none) H6 s7 := S7.unsuite ok
          exact hq s7 J7 (track J7 e7 z4 d4 n7 n0 nL nP)
      cases f with
      | next =>
        obtain ⟨σ6, H6, S6, q6⟩ := hsp
        exact done S6 fun s7 _ J7 => ⟨_, _, J7, q6⟩
      | brk =>
        obtain ⟨σ6, H6, S6, q6⟩ := hsp
        exact done S6 fun s7 _ J7 => ⟨_, _, J7, q6⟩
      | cont =>
        obtain ⟨σ6, H6, S6, q6⟩ := hsp
        exact done S6 fun s7 _ J7 => ⟨_, _, J7, q6⟩
      | ret u =>
        obtain ⟨v6, σ6, H6, S6, r6, q6⟩ := hsp
        exact done S6 fun s7 J7 _ => ⟨_, _, _, J7, r6, q6⟩
  · cases f with
    | next =>
      obtain ⟨σ', H', J', q⟩ := q
      exact wpAny_execs_nil ⟨σ', H', J'.ofTry I.ok, q⟩
    | brk =>
      obtain ⟨σ', H', J', q⟩ := q
      exact ⟨σ', H', J'.ofTry I.ok, q⟩
    | cont =>
      obtain ⟨σ', H', J', q⟩ := q
      exact ⟨σ', H', J'.ofTry I.ok, q⟩
    | ret u =>
      obtain ⟨v, σ', H', J', r, q⟩ := q
      exact ⟨v, σ', H', J'.ofTry I.ok, r, q⟩
end
/-- isinstance of a kept error -/
def rIsK (K : PySem.W.Frag) : List V → Hp → VK → Prop := fun xs H Q => ∃ (a D : Addr) (c : V) (cv : Value) (b : Bool), xs = [.ref a, c] ∧ H a = some (ExK (.ref D) none a) ∧ ExcC K D ∧ (∀ u, RelV c u → u = cv) ∧ PySem.W.kitOne K (.ref D) cv = some b ∧ Q (.bl b) H
theorem call_isK {X : Cx} : CallR X (.builtin "isinstance") (rIsK X.K) := by
  intro pins s σ H xs us Q I r h
  obtain ⟨a, D, c, cv, b, rfl, ha, C, hcv, e, q⟩ := h
  obtain ⟨u1, u2, rfl, r1, r2⟩ := vals2 r
  cases (show u1 = Value.ref a from r1)
  cases hcv _ r2
  obtain ⟨⟨oe, vs, ho, hz, hd⟩, _⟩ := I.hok a _ ha
  obtain ⟨oc, od, oda, osl⟩ := oe
  obtain ⟨h1, h2⟩ := hz
  dsimp only at h1 h2 hd
  subst h1 h2 hd
  exact PySem.W.kia_one (PySem.W.handS_kitx_exc C.hg C.hk C.hs C.hd C.ha C.hn C.ht C.hm) I.kIn ⟨ho, rfl, rfl, trivial⟩ e (fun z => nomatch z) fun tk => ⟨.bl b, H, I.kept (t' := tk) fun _ _ z => z, rfl, q⟩
/-! ### defs that raise, by their names -/
structure DnS (P : Program) (w : World) (K : PySem.W.Frag) (mg : Str → Option Value) (base : Heap) (k : Nat) (x : Str) (ps : List Str) (sp : Sp) : Prop where
  ex : ∃ (f : Addr) (fd : FuncData), mg x = some (.ref f) ∧ PySem.W.keepIn K (.ref f) = true ∧ Binds K fd ps [] ∧ FnOk P w K mg base (L2.CX P w) k f fd ps sp
section
variable {X : Cx} {k : Nat} {x : Str} {ps : List Str} {sp : Sp} {p pos : Pos} {e : Expr} {es : List Expr} {t : TA}
theorem pe_dnS {E : L2.St → XK} (D : DnS X.prog X.w X.K X.mg X.base k x ps sp) (hr : Room k X.A) (hg : Gl X x) (hx : ∀ σ, PassesAt (L2.CX X.prog X.w) X σ (E σ)) (ha : PA X (e :: es) t) (hdb : (x == ("__debug__" : Str)) = false := by decide)
    (he : starEach (e :: es) X.env = (false, eval e X.env) :: starEach es X.env := by rfl) (hpl : (backTo pos (starEach es X.env)).any (·.1) = false := by rfl) :
    PE X (.Call (.Name x p) (e :: es) [] pos) (tCallS sp E t) := by
  obtain ⟨f, fd, hm, hk, hb, F⟩ := D.ex
  exact pe_callS F hr hg hm hk hb hx ha hdb he hpl
end
section
variable {P : Program} {w : World} {K : PySem.W.Frag} {mg : Str → Option Value} {base : Heap} {x qual : Str} {params : Arguments} {body : List Stmt} {scope : Scope} {dvs : List V} {kws : List (Str × V)} {N ps : List Str} {k : Nat} {sp : Sp}
/-- a def that may raise -/
theorem okS {f : Addr} {fd : FuncData} (F : FunD K x qual params body scope dvs kws f fd) (S : FnScope N ps scope) (len : ∀ vs H Q E, sp vs H Q E → vs.length = ps.length)
    (hbody : ∀ (c : Value) (A : Around) (outer : List Env) (s : Shared) (H : Hp) (vs : List V) (Q : VK) (E : XK), Room k (A.deeper (envOfC qual scope s.heap.objs.size f c)) → sp vs H Q E →
      ∃ t, PSs (cxOf (L2.CX P w) P w K mg base N qual scope f c A outer s H E) body t ∧ t { nx := fun _ H' => Q .non H', rt := Q } (start N vs) H) : FnOk P w K mg base (L2.CX P w) (k + 1) f fd ps sp := by
  obtain ⟨oc, od, dV, kV, doc, pm, an, cdv, ct, osl, rfl, lk, hcd, _, _⟩ := F.ex
  exact fn_of lk hcd S len fun A outer s H vs Q E hr hsp => hbody _ A outer s H vs Q E hr hsp
end
/-! ### xs.count(y), flat items -/
theorem count_vals {y : V} : ∀ {ys : List V} {us : List Value}, Vals ys us → ys.all flatV = true → us.countP (eqU y) = ys.countP fun z => eqV z y
  | [], _, .nil, _ => rfl
  | z :: r, _, .cons h t, f => by
    rw [List.all_cons, Bool.and_eq_true] at f
    rw [List.countP_cons, List.countP_cons, count_vals t f.2, eqU_of h f.1]
def rCntV (K : PySem.W.Frag) : V → List V → Hp → VK → Prop := fun x xs H Q => ∃ (a : Addr) (ys : List V) (y : V), x = .ref a ∧ xs = [y] ∧ SqL K H a ys ∧ flatV y = true ∧ ys.all flatV = true ∧ Q (.int (ys.countP fun z => eqV z y : Nat)) H
theorem mt_lcountV {X : Cx} : MtR X "list.count" (rCntV X.K) := by
  intro pins s σ H x xs v us Q I rx rxs h
  obtain ⟨a, ys, y, rfl, rfl, hs, fy, fys, q⟩ := h
  cases (show v = Value.ref a from rx)
  obtain ⟨u, rfl, ru⟩ := rxs.one
  obtain ⟨its, rv, ⟨⟨cls, dd, data, sl⟩, n, ho, hc, hdn, hd⟩, hlen⟩ := I.list hs
  simp only at hc hd
  subst hc hd
  refine call_meets PySem.F.slot_list_count ⟨_, ho, rfl⟩ PySem.F.entry_list_count (PySem.F.args_list_count_2 _ _)
    (SeqAt.list_countAt a its.toArray n dd sl u (eqU y)) ⟨ho, fun u' hu' => mem_eqAt ru fy rv fys u' (by simpa using hu'), ?_⟩
  have ec : its.toArray.toList.countP (eqU y) = ys.countP fun z => eqV z y := by
    rw [List.toList_toArray]
    exact count_vals rv fys
  refine ⟨.int (ys.countP fun z => eqV z y : Nat), H, I.tok _, ⟨s.toks, ?_⟩, q⟩
  show Value.int ((its.toArray.toList.countP (eqU y) : Nat) : Int) s.toks = _
  rw [ec]
/-! ### facts of an error's class -/
/-- what the head tells of the class at C -/
def excB (K : PySem.W.Frag) (C : Addr) : Bool := PySem.W.excIn K C He.veBase "ValueError.__new__" && (PySem.W.keepIn K (.ref C) && (decide (PySem.W.subIn K (.ref C) (.type "BaseException") = some true) && (decide (PySem.W.typeIn K (.ref C) = some (.type "type")) &&
  (decide (PySem.W.findIn K (.ref C) "__getattribute__" = some (some (.builtin "BaseException.__getattribute__"))) && (decide (PySem.W.findIn K (.ref C) "__getattr__" = some none) && (PySem.W.hasDictIn K C && (decide (PySem.W.findIn K (.ref C) "__class__" = some (some (.builtin "object.__class__"))) &&
  (decide (PySem.W.specialIn K (.builtin "object.__class__") "__get__" = some (some (.builtin "getset_descriptor.__get__"))) && (decide (PySem.W.takesIn K (.builtin "object.__class__") = some true) && decide (PySem.W.mroIn K C (.type "object") = some true))))))))))
structure ExF (K : PySem.W.Frag) (C : Addr) : Prop where
  x : PySem.W.excIn K C He.veBase "ValueError.__new__" = true
  k : PySem.W.keepIn K (.ref C) = true
  b : PySem.W.subIn K (.ref C) (.type "BaseException") = some true
  t : PySem.W.typeIn K (.ref C) = some (.type "type")
  c : ExcC K C
theorem excB_ok {K : PySem.W.Frag} {C : Addr} (h : excB K C = true) : ExF K C := by
  unfold excB at h
  simp only [Bool.and_eq_true, decide_eq_true_eq] at h
  obtain ⟨h1, h2, h3, h4, h5, h6, h7, h8, h9, h10, h11⟩ := h
  exact ⟨h1, h2, h3, h4, ⟨h5, h6, h3, h7, h8, h9, h10, h11⟩⟩
/-- of an error of the class at C: which of the classes named it is -/
def kitB (K : PySem.W.Frag) (C : Addr) (one : Str) (xs : List Str) : Bool := xs.all fun x => decide (PySem.W.kitOne K (.ref C) (.ref (He.ga K x)) = some (decide (x = one)))
theorem kitB_ok {K : PySem.W.Frag} {C : Addr} {one : Str} {xs : List Str} (h : kitB K C one xs = true) {x : Str} (hx : x ∈ xs) : PySem.W.kitOne K (.ref C) (.ref (He.ga K x)) = some (decide (x = one)) := of_decide_eq_true (List.all_eq_true.mp h x hx)
/-! ### new objects, their heaps not spelt out -/
theorem lst_any {H : Hp} {xs : List V} {Q : VK} (hz : xs.length ≤ sizeLine) (q : ∀ p H', H' p = some (.lst xs) → Same H H' → H p = none → Q (.ref p) H') : xs.length ≤ sizeLine ∧ ∀ p, H p = none → Q (.ref p) (upd H p (.lst xs)) :=
  ⟨hz, fun p hp => q p _ upd_same (same_new hp) hp⟩
theorem tup_any {H : Hp} {xs : List V} {Q : VK} (hz : xs.length ≤ sizeLine) (q : ∀ p H', H' p = some (.tup xs) → Same H H' → H p = none → Q (.ref p) H') : xs.length ≤ sizeLine ∧ ∀ p, H p = none → Q (.ref p) (upd H p (.tup xs)) :=
  ⟨hz, fun p hp => q p _ upd_same (same_new hp) hp⟩
theorem catL_any {H : Hp} {l b : Addr} {xs ys : List V} {Q : VK} (hl : H l = some (.lst xs)) (hb : H b = some (.lst ys)) (hz : xs.length + ys.length ≤ sizeLine) (q : ∀ p H', H' p = some (.lst (xs ++ ys)) → Same H H' → H p = none → Q (.ref p) H') : rCat (.ref l) (.ref b) H Q :=
  ⟨l, b, xs, ys, rfl, rfl, hl, hb, hz, fun p hp => q p _ upd_same (same_new hp) hp⟩
end Gc

set_option Elab.async false
set_option linter.all false
set_option maxRecDepth 100000
set_option maxHeartbeats 2000000
/-! Data of tuples alone: masters as the laws draw them, told by records. -/
namespace Gd
open PySem PySem.Spec PyProof.Rows L2 GxR Gx
mutual
/-- no list, no dict in it: nothing in it can change -/
def noL : PyData → Bool
  | .tuple ds => noLAll ds
  | .list _ => false
  | .dict _ => false
  | _ => true
def noLAll : List PyData → Bool
  | [] => true
  | d :: r => noL d && noLAll r
end
mutual
theorem dpT_keep {K : PySem.W.Frag} {H H' : Hp} (kt : ∀ a xs, SqT K H a xs → SqT K H' a xs) : ∀ {v : V} {d : PyData}, Dp K H v d → noL d = true → Dp K H' v d
  | _, _, .non, _ => .non
  | _, _, .bl b, _ => .bl b
  | _, _, .int i, _ => .int i
  | _, _, .str x, _ => .str x
  | _, _, .lst s h, n => by
    simp only [noL] at n
    cases n
  | _, _, .tup s h, n => by
    simp only [noL] at n
    exact .tup (kt _ _ s) (dpTAll_keep kt h n)
theorem dpTAll_keep {K : PySem.W.Frag} {H H' : Hp} (kt : ∀ a xs, SqT K H a xs → SqT K H' a xs) : ∀ {vs : List V} {ds : List PyData}, DpAll K H vs ds → noLAll ds = true → DpAll K H' vs ds
  | _, _, .nil, _ => .nil
  | _, _, .cons h t, n => by
    simp only [noLAll, Bool.and_eq_true] at n
    exact .cons (dpT_keep kt h n.1) (dpTAll_keep kt t n.2)
end
theorem noL_all : ∀ {ds : List PyData}, (∀ d ∈ ds, noL d = true) → noLAll ds = true
  | [], _ => by simp only [noLAll]
  | d :: r, h => by simp only [noLAll, h d List.mem_cons_self, noL_all fun x hx => h x (List.mem_cons_of_mem _ hx), Bool.and_self]
section
variable {K : PySem.W.Frag} {H : Hp}
theorem dp_tup {v : V} {ds : List PyData} (h : Dp K H v (.tuple ds)) : ∃ a xs, v = .ref a ∧ SqT K H a xs ∧ DpAll K H xs ds := by
  cases h with
  | tup s h => exact ⟨_, _, rfl, s, h⟩
theorem dp_str {v : V} {z : Str} (h : Dp K H v (.str z)) : v = .str z := by
  cases h
  rfl
theorem dp_int {v : V} {i : Int} (h : Dp K H v (.int i)) : v = .int i := by
  cases h
  rfl
theorem dp_non {v : V} (h : Dp K H v .none) : v = .non := by
  cases h
  rfl
theorem dpAll_len : ∀ {xs : List V} {ds : List PyData}, DpAll K H xs ds → xs.length = ds.length
  | _, _, .nil => rfl
  | _, _, .cons _ t => congrArg (· + 1) (dpAll_len t)
theorem dpAll_get : ∀ {xs : List V} {ds : List PyData} {i : Nat} {d : PyData}, DpAll K H xs ds → ds[i]? = some d → ∃ x, xs[i]? = some x ∧ Dp K H x d
  | _, _, 0, _, .cons h _, e => ⟨_, rfl, by cases e; exact h⟩
  | _, _, i + 1, _, .cons _ t, e => dpAll_get (i := i) t e
  | _, _, _, _, .nil, e => by cases e
theorem dpAll_of : ∀ {xs : List V} {ds : List PyData} {i : Nat} {x : V}, DpAll K H xs ds → xs[i]? = some x → ∃ d, ds[i]? = some d ∧ Dp K H x d
  | _, _, 0, _, .cons h _, e => ⟨_, rfl, by cases e; exact h⟩
  | _, _, i + 1, _, .cons _ t, e => dpAll_of (i := i) t e
  | _, _, _, _, .nil, e => by cases e
theorem dpAll_app : ∀ {xs ys : List V} {ds es : List PyData}, DpAll K H xs ds → DpAll K H ys es → DpAll K H (xs ++ ys) (ds ++ es)
  | _, _, _, _, .nil, h => h
  | _, _, _, _, .cons h t, h2 => .cons h (dpAll_app t h2)
theorem dpAll_take : ∀ {xs : List V} {ds : List PyData} (n : Nat), DpAll K H xs ds → DpAll K H (xs.take n) (ds.take n)
  | _, _, 0, _ => .nil
  | _, _, _ + 1, .nil => .nil
  | _, _, n + 1, .cons h t => .cons h (dpAll_take n t)
theorem dpAll_drop : ∀ {xs : List V} {ds : List PyData} (n : Nat), DpAll K H xs ds → DpAll K H (xs.drop n) (ds.drop n)
  | _, _, 0, h => h
  | _, _, _ + 1, .nil => .nil
  | _, _, n + 1, .cons _ t => dpAll_drop n t
theorem dpAll_strs : ∀ l : List Str, DpAll K H (l.map V.str) (l.map PyData.str)
  | [] => .nil
  | z :: r => .cons (.str z) (dpAll_strs r)
end
/-! ### records -/
structure PlM where
  name : Str
  sets : List (Str × PyData)
  text : Option (List Str)
def PlM.d (p : PlM) : PyData := .tuple [.str p.name, .tuple (p.sets.map fun s => .tuple [.str s.1, s.2]), match p.text with
  | none => .none
  | some l => .tuple (l.map .str)]
structure MaM where
  name : Str
  over : Option Str
  own : List PlM
def MaM.d (m : MaM) : PyData := .tuple [.str m.name, match m.over with
  | none => .none
  | some z => .str z, .tuple (m.own.map PlM.d)]
/-- worths are whole numbers or texts -/
def flatW : PyData → Bool
  | .int _ => true
  | .str _ => true
  | _ => false
theorem flat_noL {d : PyData} (h : flatW d = true) : noL d = true := by
  cases d with
  | int i => simp only [noL]
  | str z => simp only [noL]
  | _ => cases h
theorem PlM.noL {p : PlM} (h : ∀ s ∈ p.sets, flatW s.2 = true) : Gd.noL p.d = true := by
  unfold PlM.d
  have h1 : noLAll (p.sets.map fun s => PyData.tuple [.str s.1, s.2]) = true := noL_all fun d hd => by
    obtain ⟨s, hs, rfl⟩ := List.mem_map.mp hd
    simp only [Gd.noL, noLAll, flat_noL (h s hs), Bool.and_self]
  have h2 : ∀ l : List Str, noLAll (l.map PyData.str) = true := fun l => noL_all fun d hd => by
    obtain ⟨z, _, rfl⟩ := List.mem_map.mp hd
    simp only [Gd.noL]
  cases p.text with
  | none => simp only [Gd.noL, noLAll, h1, Bool.and_self]
  | some l => simp only [Gd.noL, noLAll, h1, h2 l, Bool.and_self]
theorem MaM.noL {m : MaM} (h : ∀ p ∈ m.own, ∀ s ∈ p.sets, flatW s.2 = true) : Gd.noL m.d = true := by
  unfold MaM.d
  have h1 : noLAll (m.own.map PlM.d) = true := noL_all fun d hd => by
    obtain ⟨p, hp, rfl⟩ := List.mem_map.mp hd
    exact PlM.noL (h p hp)
  cases m.over with
  | none => simp only [Gd.noL, noLAll, h1, Bool.and_self]
  | some z => simp only [Gd.noL, noLAll, h1, Bool.and_self]
/-! ### traits and worths -/
def TRS : List Str := ["left", "top", "wide", "high", "size", "ink"]
def bnd (z : Str) : Int × Int := if z = "left" then (-999, 999) else if z = "top" then (-999, 999) else if z = "size" then (1, 99) else (1, 999)
/-- a right worth of the trait z -/
def wOk (z : Str) : PyData → Bool
  | .int i => !decide (z = "ink") && (decide ((bnd z).1 ≤ i) && decide (i ≤ (bnd z).2))
  | .str s => decide (z = "ink") && nameB s
  | _ => false
theorem wOk_flat {z : Str} {d : PyData} (h : wOk z d = true) : flatW d = true := by
  cases d with
  | int i => rfl
  | str s => rfl
  | _ => cases h
theorem wOk_int {z : Str} {i : Int} (n : z ≠ "ink") (h1 : (bnd z).1 ≤ i) (h2 : i ≤ (bnd z).2) : wOk z (.int i) = true := by
  show (!decide (z = "ink") && (decide ((bnd z).1 ≤ i) && decide (i ≤ (bnd z).2))) = true
  rw [decide_eq_false n, decide_eq_true h1, decide_eq_true h2] <;> rfl
/-! ### lines -/
def gSign (c : Nat) : Bool := !decide (c < 32) && (!decide (126 < c) && (!decide (c = 37) && !decide (c = 92)))
/-- signs that may stand in a line -/
def okS (z : Str) : Prop := ∀ c ∈ z.cps.toList, gSign c = true
instance (z : Str) : Decidable (okS z) := inferInstanceAs (Decidable (∀ c ∈ z.cps.toList, gSign c = true))
theorem okS_add {a b : Str} (ha : okS a) (hb : okS b) : okS (a ++ b) := fun c hc => by
  have hc : c ∈ (a.cps ++ b.cps).toList := hc
  rw [Array.toList_append] at hc
  exact (List.mem_append.mp hc).elim (ha c) (hb c)
theorem okS_cut {z : Str} {lo hi : Option Int} (h : okS z) : okS (cutS z lo hi) := fun c hc => by
  have hc : c ∈ ((z.cps.toList.drop (HT.sIx z.length 0 lo)).take (HT.sIx z.length z.length hi - HT.sIx z.length 0 lo)).toArray.toList := hc
  rw [List.toList_toArray] at hc
  exact h c (List.mem_of_mem_drop (List.mem_of_mem_take hc))
theorem okS_joinS {sep : Str} (hs : okS sep) : ∀ {ys : List Str}, (∀ y ∈ ys, okS y) → okS (Str.join sep ys)
  | [], _ => fun c hc => nomatch hc
  | [y], h => h y List.mem_cons_self
  | y :: z :: r, h => okS_add (okS_add (h y List.mem_cons_self) hs) (okS_joinS hs fun x hx => h x (List.mem_cons_of_mem _ hx))
theorem okS_join {sep : Str} (hs : okS sep) {ys : List Str} (h : ∀ y ∈ ys, okS y) : okS (Txt.join sep ys) := by
  rw [show Txt.join sep ys = Str.join sep ys from StrLaws.glued_eq_join sep ys]
  exact okS_joinS hs h
theorem sum_le {m : Nat} : ∀ {ys : List Str}, (∀ y ∈ ys, y.length ≤ m) → (ys.map (·.length)).sum ≤ ys.length * m
  | [], _ => Nat.zero_le _
  | y :: r, h => by
    have ih := sum_le (ys := r) fun z hz => h z (List.mem_cons_of_mem _ hz)
    have h1 := h y List.mem_cons_self
    rw [List.map_cons, List.sum_cons, List.length_cons, Nat.succ_mul]
    omega
theorem cut_le {z : Str} {k : Nat} : (cutS z none (some (k : Int))).length ≤ k := by
  show (((z.cps.toList.drop (HT.sIx z.length 0 none)).take (HT.sIx z.length z.length (some (k : Int)) - HT.sIx z.length 0 none)).toArray).size ≤ k
  rw [List.size_toArray, List.length_take, show HT.sIx z.length z.length (some (k : Int)) = min k z.length from HT.sIx_nat z.length z.length k]
  omega
/-! ### tuples stay -/
section
variable {K : PySem.W.Frag} {H H' : Hp}
theorem sqT_by {a : Addr} {xs : List V} (h : SqT K H a xs) (k1 : ∀ o, H a = some (.tup o) → H' a = some (.tup o)) (k2 : ∀ o u, H a = some (.frz o u) → H' a = some (.frz o u)) : SqT K H' a xs := by
  rcases h with (h | ⟨o, h⟩) | h
  · exact .inl (.inl (k1 _ h))
  · exact .inl (.inr ⟨o, k2 _ _ h⟩)
  · exact .inr h
theorem sqT_same {a : Addr} {xs : List V} (s : Same H H') (h : SqT K H a xs) : SqT K H' a xs := sqT_by h (fun _ e => s _ _ e) fun _ _ e => s _ _ e
theorem sqT_kp {p a : Addr} {xs ys : List V} (hp : H p = some (.lst ys)) (s : Kp p H H') (h : SqT K H a xs) : SqT K H' a xs :=
  sqT_by h (fun _ e => s _ _ e (ne_of e hp fun q => nomatch q)) fun o u e => s _ _ e (ne_of e hp fun q => nomatch q)
/-- tuples that stand at H stand at H' -/
def KT (K : PySem.W.Frag) (H H' : Hp) : Prop := ∀ a xs, SqT K H a xs → SqT K H' a xs
theorem KT.refl : KT K H H := fun _ _ h => h
theorem KT.trans {H2 : Hp} (a : KT K H H') (b : KT K H' H2) : KT K H H2 := fun _ _ h => b _ _ (a _ _ h)
theorem KT.same (s : Same H H') : KT K H H' := fun _ _ h => sqT_same s h
theorem KT.kp {p : Addr} {ys : List V} (hp : H p = some (.lst ys)) (s : Kp p H H') : KT K H H' := fun _ _ h => sqT_kp hp s h
theorem KT.pen {p L : Addr} {ns : List Int} {n : Nat} (hP : Pen H p L ns n) (s : Kp p H H') : KT K H H' := by
  obtain ⟨a, r, hp, _⟩ := hP.at_
  exact KT.kp hp s
theorem KT.put {D : Addr} {ys zs : List V} (hD : H D = some (.lst ys)) : KT K H (upd H D (.lst zs)) := KT.kp hD fun b o e n => (upd_ne n).trans e
end
/-! ### right records -/
def goodL (ls : List Str) : Prop := ls.length ≤ 12 ∧ ∀ z ∈ ls, z.length ≤ 60 ∧ okS z
structure OkPl (p : PlM) : Prop where
  right : ∀ s ∈ p.sets, s.1 ∈ TRS ∧ wOk s.1 s.2 = true
  once : (p.sets.map (·.1)).Nodup
  text : ∀ ls, p.text = some ls → goodL ls
theorem OkPl.noL {p : PlM} (h : OkPl p) : Gd.noL p.d = true := PlM.noL fun s hs => wOk_flat (h.right s hs).2
theorem take_more {α : Type} {l : List α} {i : Nat} {x : α} (h : l[i]? = some x) : l.take (i + 1) = l.take i ++ [x] := by
  rw [List.take_add_one, h] <;> rfl
end Gd

set_option Elab.async false
set_option linter.all false
set_option maxRecDepth 100000
set_option maxHeartbeats 2000000
/-! Names as the laws draw them: right ones, each once. -/
namespace Gn
open PySem PySem.Spec PyProof.Rows L2 GxR Gx Gd
def BEG : List Str := ["", "", "a", "z9", "title", "m0m0m0", "b"]
/-- what the last two letters of a name tell -/
def code2 (z : Str) : Nat := match z.cps.toList.reverse with
  | y :: x :: _ => (x - 97) * 26 + (y - 97)
  | _ => 0
theorem toL (b : Str) (x y : Nat) : ((b ++ ⟨#[x]⟩) ++ ⟨#[y]⟩ : Str).cps.toList = b.cps.toList ++ [x] ++ [y] := by
  show ((b.cps ++ #[x]) ++ #[y]).toList = _
  rw [Array.toList_append, Array.toList_append]
theorem code2_of (b : Str) {m : Nat} (h : m < 676) : code2 ((b ++ ⟨#[97 + m / 26]⟩) ++ ⟨#[97 + m % 26]⟩) = m := by
  unfold code2
  rw [toL, List.reverse_append, List.reverse_append]
  show (97 + m / 26 - 97) * 26 + (97 + m % 26 - 97) = m
  omega
theorem let_at (k : Fin 26) : LETS.cps.toList[k.val]? = some (97 + k.val) := by
  revert k
  decide +kernel
theorem let_is (k : Fin 26) : isLet (97 + k.val) = true := by
  revert k
  decide +kernel
theorem nameB_by {z : Str} {c : Nat} {r : List Nat} (e : z.cps.toList = c :: r) (l : (c :: r).length ≤ 8) (h1 : isLet c = true) (h2 : (c :: r).all (fun c => isLet c || isFig c) = true) : nameB z = true := by
  have hl := cps_len z
  rw [e] at hl
  unfold nameB
  rw [e, decide_eq_true (show 1 ≤ (z.length : Int) by rw [← hl, List.length_cons]; omega), decide_eq_true (show (z.length : Int) ≤ 8 by omega), h2]
  show (true && (true && (isLet c && true))) = true
  rw [h1] <;> rfl
theorem name_of {b : Str} (hb : b ∈ BEG) {x y : Nat} (hx : isLet x = true) (hy : isLet y = true) : nameB ((b ++ ⟨#[x]⟩) ++ ⟨#[y]⟩) = true := by
  have e := toL b x y
  have tail : ∀ l : List Nat, l.all (fun c => isLet c || isFig c) = true → (l ++ [x] ++ [y]).all (fun c => isLet c || isFig c) = true := fun l hl => by
    rw [List.all_append, List.all_append, hl, List.all_cons, List.all_cons, hx, hy] <;> rfl
  simp only [BEG, List.mem_cons, List.not_mem_nil, or_false] at hb
  rcases hb with rfl | rfl | rfl | rfl | rfl | rfl | rfl
  · exact nameB_by (c := x) (r := [y]) e (by simp) hx (tail [] rfl)
  · exact nameB_by (c := x) (r := [y]) e (by simp) hx (tail [] rfl)
  · exact nameB_by (c := 97) (r := [x, y]) e (by simp) (by decide +kernel) (tail [97] (by decide +kernel))
  · exact nameB_by (c := 122) (r := [57, x, y]) e (by simp) (by decide +kernel) (tail [122, 57] (by decide +kernel))
  · exact nameB_by (c := 116) (r := [105, 116, 108, 101, x, y]) e (by simp) (by decide +kernel) (tail [116, 105, 116, 108, 101] (by decide +kernel))
  · exact nameB_by (c := 109) (r := [48, 109, 48, 109, 48, x, y]) e (by simp) (by decide +kernel) (tail [109, 48, 109, 48, 109, 48] (by decide +kernel))
  · exact nameB_by (c := 98) (r := [x, y]) e (by simp) (by decide +kernel) (tail [98] (by decide +kernel))
theorem one_of {x : Nat} (hx : isLet x = true) : nameB ⟨#[x]⟩ = true := nameB_by (c := x) (r := []) rfl (by simp) hx (by rw [List.all_cons, hx] <;> rfl)
/-- the steps from name to name -/
def STP : List Nat := [1, 3, 5, 7, 9, 11, 15, 17]
theorem step_ok : ∀ a ∈ STP, ∀ b : Fin 13, ∀ d : Fin 40, d.val = 0 ∨ (d.val * (a + 26 * b.val)) % 676 ≠ 0 := by decide +kernel
def nth (c s j : Nat) : Nat := (c + j * s) % 676
theorem nth_inj {a b c : Nat} (ha : a ∈ STP) (hb : b < 13) {i j : Nat} (hi : i < j) (hj : j < 40) : nth c (a + 26 * b) i ≠ nth c (a + 26 * b) j := by
  intro e
  unfold nth at e
  have h := step_ok a ha ⟨b, hb⟩ ⟨j - i, by omega⟩
  have hd : j * (a + 26 * b) = i * (a + 26 * b) + (j - i) * (a + 26 * b) := by
    rw [← Nat.add_mul]
    congr 1
    omega
  generalize (j - i) * (a + 26 * b) = D at hd h
  generalize i * (a + 26 * b) = A at hd e
  rw [hd] at e
  rcases h with h | h
  · have h : j - i = 0 := h
    omega
  · have h : D % 676 ≠ 0 := h
    omega
theorem nth_nodup {a b c : Nat} (ha : a ∈ STP) (hb : b < 13) : ∀ {n : Nat}, n ≤ 40 → ((List.range n).map (nth c (a + 26 * b))).Nodup
  | 0, _ => List.nodup_nil
  | n + 1, h => by
    rw [List.range_succ, List.map_append]
    refine List.nodup_append.mpr ⟨nth_nodup ha hb (by omega), by simp, ?_⟩
    intro x hx y hy
    obtain ⟨i, hi, rfl⟩ := List.mem_map.mp hx
    rw [List.map_cons, List.map_nil, List.mem_singleton] at hy
    rw [hy]
    exact nth_inj ha hb (List.mem_range.mp hi) (by omega)
theorem nodup_set {α : Type} : ∀ {l : List α} {j : Nat} {x : α}, l.Nodup → x ∉ l → (l.set j x).Nodup
  | [], _, _, _, _ => List.nodup_nil
  | a :: r, 0, x, h, n => List.nodup_cons.mpr ⟨fun m => n (List.mem_cons_of_mem _ m), (List.nodup_cons.mp h).2⟩
  | a :: r, j + 1, x, h, n => by
    obtain ⟨h1, h2⟩ := List.nodup_cons.mp h
    refine List.nodup_cons.mpr ⟨fun m => ?_, nodup_set h2 fun m => n (List.mem_cons_of_mem _ m)⟩
    rcases List.mem_or_eq_of_mem_set m with m | e
    · exact h1 m
    · exact n (by rw [← e]; exact List.mem_cons_self)
theorem nodup_of_map {α β : Type} {f : α → β} : ∀ {l : List α}, (l.map f).Nodup → l.Nodup
  | [], _ => List.nodup_nil
  | a :: r, h => by
    obtain ⟨h1, h2⟩ := List.nodup_cons.mp h
    exact List.nodup_cons.mpr ⟨fun m => h1 (List.mem_map_of_mem m), nodup_of_map h2⟩
theorem ixN_at {n j : Nat} (hj : j < n) : ixN n (j : Int) = some j := by
  unfold ixN
  rw [if_pos (by omega), if_pos (by omega)]
  simp
/-! ### right masters -/
structure OkMa (m : MaM) : Prop where
  name : nameB m.name = true
  own : ∀ p ∈ m.own, OkPl p ∧ nameB p.name = true
  once : (m.own.map (·.name)).Nodup
  few : m.own.length ≤ 8
theorem OkMa.noL {m : MaM} (h : OkMa m) : Gd.noL m.d = true := MaM.noL fun p hp s hs => wOk_flat ((h.own p hp).1.right s hs).2
/-- masters of names all unlike, what is over each stands among them, no ring: each name has a height -/
structure OkMs (ms : List MaM) : Prop where
  all : ∀ m ∈ ms, OkMa m
  once : (ms.map (·.name)).Nodup
  over : ∃ f : Str → Nat, (∀ z, f z ≤ 12) ∧ ∀ m ∈ ms, ∀ z, m.over = some z → (∃ o ∈ ms, o.name = z) ∧ f z < f m.name
  few : ms.length ≤ 12
  some : 0 < ms.length
theorem OkMs.noL {ms : List MaM} (h : OkMs ms) : Gd.noL (.tuple (ms.map MaM.d)) = true := by
  simp only [Gd.noL]
  refine noL_all fun d hd => ?_
  obtain ⟨m, hm, rfl⟩ := List.mem_map.mp hd
  exact (h.all m hm).noL
/-! ### an item put in -/
def ins {α : Type} (l : List α) (i : Nat) (x : α) : List α := l.take i ++ x :: l.drop i
theorem ins_map {α β : Type} {f : α → β} {l : List α} {i : Nat} {x : α} : (ins l i x).map f = ins (l.map f) i (f x) := by
  unfold ins
  rw [List.map_append, List.map_cons, List.map_take, List.map_drop]
theorem ins_mem {α : Type} {l : List α} {i : Nat} {x y : α} : y ∈ ins l i x ↔ y = x ∨ y ∈ l := by
  unfold ins
  rw [List.mem_append, List.mem_cons]
  constructor
  · rintro (h | h | h)
    · exact .inr (List.mem_of_mem_take h)
    · exact .inl h
    · exact .inr (List.mem_of_mem_drop h)
  · rintro (h | h)
    · exact .inr (.inl h)
    · have e := List.take_append_drop i l
      rw [← e] at h
      rcases List.mem_append.mp h with h | h
      · exact .inl h
      · exact .inr (.inr h)
theorem ins_len {α : Type} {l : List α} {i : Nat} {x : α} : (ins l i x).length = l.length + 1 := by
  have e := congrArg List.length (List.take_append_drop i l)
  rw [List.length_append] at e
  unfold ins
  rw [List.length_append, List.length_cons]
  omega
theorem ins_perm {α : Type} {l : List α} {i : Nat} {x : α} : (ins l i x).Perm (x :: l) := by
  unfold ins
  refine (List.perm_middle).trans ?_
  rw [List.take_append_drop]
theorem ins_nodup {α : Type} {l : List α} {i : Nat} {x : α} (h : l.Nodup) (n : x ∉ l) : (ins l i x).Nodup := ins_perm.nodup_iff.mpr (List.nodup_cons.mpr ⟨n, h⟩)
theorem ins_dp {K : PySem.W.Frag} {H : Hp} {xs : List V} {ds : List PyData} {v : V} {d : PyData} (i : Nat) (h : DpAll K H xs ds) (hv : Dp K H v d) : DpAll K H (ins xs i v) (ins ds i d) := by
  unfold ins
  exact dpAll_app (dpAll_take i h) (.cons hv (dpAll_drop i h))
/-! ### where a name stands -/
def pos (z : Str) : List Str → Nat
  | [] => 0
  | y :: r => if y = z then 0 else pos z r + 1
theorem pos_get : ∀ {l : List Str} {j : Nat} {z : Str}, l.Nodup → l[j]? = some z → pos z l = j
  | [], _, _, _, e => by cases e
  | y :: r, 0, z, _, e => by
    cases e
    exact if_pos rfl
  | y :: r, j + 1, z, h, e => by
    obtain ⟨h1, h2⟩ := List.nodup_cons.mp h
    have e : r[j]? = some z := e
    have n : y ≠ z := fun q => h1 (by rw [q]; exact List.mem_of_getElem? e)
    show (if y = z then 0 else pos z r + 1) = j + 1
    rw [if_neg n, pos_get h2 e]
theorem pos_le (z : Str) : ∀ l : List Str, pos z l ≤ l.length
  | [] => Nat.le_refl _
  | y :: r => by
    show (if y = z then 0 else pos z r + 1) ≤ r.length + 1
    have := pos_le z r
    split <;> omega
theorem not_take {α : Type} : ∀ {l : List α} {j : Nat} {z : α}, l.Nodup → l[j]? = some z → z ∉ l.take j
  | [], _, _, _, e => by cases e
  | y :: r, 0, z, _, _ => fun m => nomatch m
  | y :: r, j + 1, z, h, e => fun m => by
    obtain ⟨h1, h2⟩ := List.nodup_cons.mp h
    have e : r[j]? = some z := e
    rcases List.mem_cons.mp (show z ∈ y :: r.take j from m) with q | q
    · exact h1 (by rw [← q]; exact List.mem_of_getElem? e)
    · exact not_take h2 e q
theorem ins_eq {α : Type} {l : List α} {i : Nat} {x : α} : l.take i ++ [x] ++ l.drop i = ins l i x := by
  unfold ins
  rw [List.append_assoc] <;> rfl
end Gn

set_option Elab.async false
set_option linter.all false
set_option maxRecDepth 100000
set_option maxHeartbeats 2000000
/-! Masters: chains, places; tables that grow. -/
namespace Gm
open PySem PySem.Spec PyProof.Rows L2 GxR Gx Gd Gn
/-- two ways that meet again -/
theorem seq_via {a b : TS} {D : Ends} {σ : L2.St} {H : Hp} (Mid : L2.St → Hp → Prop) (h1 : ∀ nx' : L2.St → Hp → Prop, (∀ σ' H', Mid σ' H' → nx' σ' H') → a { D with nx := nx' } σ H) (h2 : ∀ σ' H', Mid σ' H' → b D σ' H') : tSeq a b D σ H := h1 (b D) h2
def setD (s : Str × PyData) : PyData := .tuple [.str s.1, s.2]
def ovD : Option Str → V
  | none => .non
  | some z => .str z
def textD : Option (List Str) → PyData
  | none => .none
  | some l => .tuple (l.map .str)
theorem own_noL {own : List PlM} (h : ∀ q ∈ own, OkPl q ∧ nameB q.name = true) : noLAll (own.map PlM.d) = true := noL_all fun d hd => by
  obtain ⟨m, hm, rfl⟩ := List.mem_map.mp hd
  exact (h m hm).1.noL
theorem mas_noL {ms : List MaM} (h : ∀ q ∈ ms, OkMa q) : noLAll (ms.map MaM.d) = true := noL_all fun d hd => by
  obtain ⟨m, hm, rfl⟩ := List.mem_map.mp hd
  exact (h m hm).noL
/-- each over stands ahead of its master in zs -/
def Ahead (zs : List Str) (i : Nat) (ms : List MaM) : Prop := ∀ m ∈ ms, ∀ z, m.over = some z → ∃ j k, zs[j]? = some z ∧ zs[k]? = some m.name ∧ j < k ∧ k < i
theorem made_ok {zs : List Str} {ms : List MaM} (nd : zs.Nodup) (l : zs.length ≤ 12) (l0 : 0 < zs.length) (ok4 : ∀ m ∈ ms, OkMa m) (pm4 : (ms.map (·.name)).Perm zs) (ah4 : Ahead zs zs.length ms) : OkMs ms := by
  refine ⟨ok4, pm4.nodup_iff.mpr nd, ⟨fun z => pos z zs, fun z => Nat.le_trans (pos_le z zs) l, fun m mm z ez => ?_⟩, ?_, ?_⟩
  · obtain ⟨j, k, ej, ek, jk, _⟩ := ah4 m mm z ez
    refine ⟨?_, ?_⟩
    · have h1 : z ∈ ms.map (·.name) := pm4.mem_iff.mpr (List.mem_of_getElem? ej)
      obtain ⟨o, ho, e⟩ := List.mem_map.mp h1
      exact ⟨o, ho, e⟩
    · show pos z zs < pos m.name zs
      rw [pos_get nd ej, pos_get nd ek]
      exact jk
  · have h1 := pm4.length_eq
    rw [List.length_map] at h1
    omega
  · have h1 := pm4.length_eq
    rw [List.length_map] at h1
    omega
section
variable {K : PySem.W.Frag} {H : Hp}
theorem ma_at {v : V} {m : MaM} (h : Dp K H v m.d) : ∃ a g ps, v = .ref a ∧ SqT K H a [.str m.name, ovD m.over, .ref g] ∧ SqT K H g ps ∧ DpAll K H ps (m.own.map PlM.d) := by
  unfold MaM.d at h
  obtain ⟨a, xs, rfl, st, hx⟩ := dp_tup h
  cases hx with
  | cons h1 t1 =>
    cases t1 with
    | cons h2 t2 =>
      cases t2 with
      | cons h3 t3 =>
        cases t3
        obtain rfl := dp_str h1
        obtain ⟨g, ps, rfl, sg, hp⟩ := dp_tup h3
        refine ⟨a, g, ps, rfl, ?_, sg, hp⟩
        cases e : m.over with
        | none =>
          rw [e] at h2
          obtain rfl := dp_non h2
          exact st
        | some z =>
          rw [e] at h2
          obtain rfl := dp_str h2
          exact st
theorem pl_at {v : V} {p : PlM} (h : Dp K H v p.d) : ∃ a g ss u, v = .ref a ∧ SqT K H a [.str p.name, .ref g, u] ∧ SqT K H g ss ∧ DpAll K H ss (p.sets.map setD) ∧ Dp K H u (textD p.text) := by
  unfold PlM.d at h
  obtain ⟨a, xs, rfl, st, hx⟩ := dp_tup h
  cases hx with
  | cons h1 t1 =>
    cases t1 with
    | cons h2 t2 =>
      cases t2 with
      | cons h3 t3 =>
        cases t3
        obtain rfl := dp_str h1
        obtain ⟨g, ps, rfl, sg, hp⟩ := dp_tup h2
        refine ⟨a, g, ps, _, rfl, st, sg, hp, ?_⟩
        cases e : p.text with
        | none =>
          rw [e] at h3
          exact h3
        | some z =>
          rw [e] at h3
          exact h3
theorem set_at {v : V} {s : Str × PyData} (h : Dp K H v (setD s)) : ∃ a u, v = .ref a ∧ SqT K H a [.str s.1, u] ∧ Dp K H u s.2 := by
  unfold setD at h
  obtain ⟨a, xs, rfl, st, hx⟩ := dp_tup h
  cases hx with
  | cons h1 t1 =>
    cases t1 with
    | cons h2 t2 =>
      cases t2
      obtain rfl := dp_str h1
      exact ⟨a, _, rfl, st, h2⟩
end
/-- what stands at a place of a list of records -/
theorem at_rec {K : PySem.W.Frag} {H : Hp} {α : Type} {f : α → PyData} {xs : List V} {l : List α} {i : Nat} {x : V} (h : DpAll K H xs (l.map f)) (e : xs[i]? = some x) : ∃ r, l[i]? = some r ∧ Dp K H x (f r) := by
  obtain ⟨d, ed, hd⟩ := dpAll_of h e
  rw [List.getElem?_map] at ed
  cases q : l[i]? with
  | none =>
    rw [q] at ed
    cases ed
  | some r =>
    rw [q] at ed
    exact ⟨r, rfl, by cases ed; exact hd⟩
theorem str_at {zs : List Str} {i : Nat} {x : V} (e : (zs.map V.str)[i]? = some x) : ∃ z, zs[i]? = some z ∧ x = .str z := by
  rw [List.getElem?_map] at e
  cases q : zs[i]? with
  | none =>
    rw [q] at e
    cases e
  | some z =>
    rw [q] at e
    exact ⟨z, rfl, (Option.some.inj e).symm⟩
/-! ### the chain of a master -/
def fnd (ms : List MaM) (z : Str) : Option MaM := ms.find? fun m => decide (m.name = z)
theorem fnd_some {ms : List MaM} {z : Str} {m : MaM} (h : fnd ms z = some m) : m ∈ ms ∧ m.name = z := ⟨List.mem_of_find?_eq_some h, of_decide_eq_true (List.find?_some (p := fun m : MaM => decide (m.name = z)) h)⟩
theorem fnd_of {ms : List MaM} {z : Str} (h : ∃ m ∈ ms, m.name = z) : ∃ m, fnd ms z = some m := by
  cases e : fnd ms z with
  | some m => exact ⟨m, rfl⟩
  | none =>
    obtain ⟨m, hm, q⟩ := h
    exact absurd (decide_eq_true q) (List.find?_eq_none.mp e m hm)
theorem fnd_self : ∀ {ms : List MaM} {m : MaM}, (ms.map (·.name)).Nodup → m ∈ ms → fnd ms m.name = some m
  | [], _, _, h => nomatch h
  | a :: r, m, nd, h => by
    have nd' := List.nodup_cons.mp nd
    unfold fnd
    rw [List.find?_cons]
    rcases List.mem_cons.mp h with rfl | h
    · rw [decide_eq_true rfl]
    · have n : a.name ≠ m.name := fun e => nd'.1 (List.mem_map.mpr ⟨m, h, e.symm⟩)
      rw [decide_eq_false n]
      exact fnd_self nd'.2 h
def chnN (ms : List MaM) : Nat → Str → List MaM
  | 0, _ => []
  | n + 1, z => match fnd ms z with
    | none => []
    | some m => m :: (match m.over with
      | none => []
      | some y => chnN ms n y)
def chn (ms : List MaM) (z : Str) : List MaM := chnN ms 20 z
theorem chnN_len (ms : List MaM) : ∀ n z, (chnN ms n z).length ≤ n
  | 0, _ => Nat.le_refl _
  | n + 1, z => by
    unfold chnN
    cases fnd ms z with
    | none => exact Nat.zero_le _
    | some m =>
      cases e : m.over with
      | none => simp [e]
      | some y =>
        simp only [e, List.length_cons]
        exact Nat.succ_le_succ (chnN_len ms n y)
theorem chn_len (ms : List MaM) (z : Str) : (chn ms z).length ≤ 20 := chnN_len ms 20 z
theorem chnN_mem (ms : List MaM) : ∀ n z m, m ∈ chnN ms n z → m ∈ ms
  | 0, _, _, h => nomatch h
  | n + 1, z, m, h => by
    unfold chnN at h
    cases e : fnd ms z with
    | none =>
      rw [e] at h
      cases h
    | some o =>
      simp only [e] at h
      rcases List.mem_cons.mp h with rfl | h
      · exact (fnd_some e).1
      · cases eo : o.over with
        | none =>
          simp only [eo] at h
          cases h
        | some y =>
          simp only [eo] at h
          exact chnN_mem ms n y m h
theorem chn_mem {ms : List MaM} {z : Str} {m : MaM} (h : m ∈ chn ms z) : m ∈ ms := chnN_mem ms 20 z m h
theorem chnN_more {ms : List MaM} {f : Str → Nat} (hf : ∀ m ∈ ms, ∀ z, m.over = some z → (∃ o ∈ ms, o.name = z) ∧ f z < f m.name) : ∀ n k z, f z < n → n ≤ k → chnN ms n z = chnN ms k z
  | 0, _, _, h, _ => absurd h (Nat.not_lt_zero _)
  | n + 1, 0, _, _, h => absurd h (Nat.not_succ_le_zero _)
  | n + 1, k + 1, z, h, l => by
    unfold chnN
    cases e : fnd ms z with
    | none => rfl
    | some o =>
      cases eo : o.over with
      | none => simp only [eo]
      | some y =>
        obtain ⟨mo, no⟩ := fnd_some e
        have h2 := (hf o mo y eo).2
        rw [no] at h2
        simp only [eo]
        rw [chnN_more hf n k y (by omega) (by omega)]
theorem chn_step {ms : List MaM} (ok : OkMs ms) {z : Str} {m : MaM} (h : fnd ms z = some m) : chn ms z = m :: (match m.over with
    | none => []
    | some y => chn ms y) := by
  obtain ⟨f, fl, hf⟩ := ok.over
  show chnN ms (19 + 1) z = _
  unfold chnN
  rw [h]
  cases e : m.over with
  | none => simp only [e]
  | some y =>
    simp only [e]
    rw [show chn ms y = chnN ms 20 y from rfl, chnN_more hf 19 20 y (by have := fl y; omega) (by decide)]
/-- the height of a name, for loops along a chain -/
def chnL (ms : List MaM) (z : Str) : Nat := (chn ms z).length
/-! ### places -/
def addN (acc : List Str) (z : Str) : List Str := if z ∈ acc then acc else acc ++ [z]
def plN (l : List MaM) : List Str := l.flatMap fun m => m.own.map (·.name)
def there (ms : List MaM) (z : Str) : List Str := (plN (chn ms z).reverse).foldl addN []
theorem addN_len {acc : List Str} {z : Str} : (addN acc z).length ≤ acc.length + 1 := by
  unfold addN
  split
  · omega
  · rw [List.length_append]
    exact Nat.le_refl _
theorem fold_len : ∀ {l acc : List Str}, (l.foldl addN acc).length ≤ acc.length + l.length
  | [], acc => Nat.le_refl _
  | z :: r, acc => by
    have h := fold_len (l := r) (acc := addN acc z)
    have h2 := addN_len (acc := acc) (z := z)
    rw [List.foldl_cons, List.length_cons]
    omega
theorem plN_app (l : List MaM) (m : MaM) : plN (l ++ [m]) = plN l ++ m.own.map (·.name) := by
  unfold plN
  rw [List.flatMap_append]
  simp
theorem plN_len : ∀ {l : List MaM}, (∀ m ∈ l, m.own.length ≤ 8) → (plN l).length ≤ 8 * l.length
  | [], _ => Nat.zero_le _
  | m :: r, h => by
    have ih := plN_len (l := r) fun x hx => h x (List.mem_cons_of_mem _ hx)
    have h1 := h m List.mem_cons_self
    show (m.own.map (·.name) ++ plN r).length ≤ _
    rw [List.length_append, List.length_map, List.length_cons]
    omega
theorem inV_strs (z : Str) (l : List Str) : inV (.str z) (l.map V.str) = decide (z ∈ l) := by
  rw [Bool.eq_iff_iff, decide_eq_true_eq]
  show (((l.map V.str).any fun y => eqV y (.str z)) = true) ↔ _
  rw [List.any_eq_true]
  constructor
  · rintro ⟨x, hx, e⟩
    obtain ⟨y, hy, rfl⟩ := List.mem_map.mp hx
    rw [← (beq_iff_eq.mp (show (y == z) = true from e))]
    exact hy
  · intro h
    exact ⟨.str z, List.mem_map_of_mem h, beq_iff_eq.mpr rfl⟩
theorem flat_strs (l : List Str) : (l.map V.str).all flatV = true := by
  rw [List.all_map]
  exact List.all_eq_true.mpr fun _ _ => rfl
/-! ### tables that grow, all else kept -/
def Tk (P' : Addr) (H H' : Hp) : Prop := TabG H' P' ∧ ∀ b o, H b = some o → b ≠ P' → H' b = some o
section
variable {K : PySem.W.Frag} {P' : Addr} {H H' H2 : Hp}
theorem Tk.same (g : TabG H P') (s : Same H H') : Tk P' H H' := ⟨tabSame g s, fun b o e _ => s b o e⟩
theorem Tk.refl (g : TabG H P') : Tk P' H H := Tk.same g (Same.refl H)
theorem Tk.tabbed (h : Tabbed P' H H') : Tk P' H H' := ⟨h.1, tabbedKt h⟩
theorem Tk.trans (a : Tk P' H H') (b : Tk P' H' H2) : Tk P' H H2 := ⟨b.1, fun c o e n => b.2 c o (a.2 c o e n) n⟩
theorem tab_ne {o : HO} {b : Addr} (g : TabG H P') (e : H b = some o) (n : ∀ ps, o ≠ .tbl ps) : b ≠ P' := by
  obtain ⟨ps, q, _⟩ := g
  intro z
  rw [z, q] at e
  exact n ps (Option.some.inj e).symm
theorem Tk.lst {D : Addr} {xs : List V} (g : TabG H P') (k : Tk P' H H') (e : H D = some (.lst xs)) : H' D = some (.lst xs) := k.2 _ _ e (tab_ne g e fun _ q => nomatch q)
theorem KT.tk (g : TabG H P') (k : Tk P' H H') : KT K H H' := fun _ _ h => sqT_by h (fun _ e => k.2 _ _ e (tab_ne g e fun _ q => nomatch q)) fun _ _ e => k.2 _ _ e (tab_ne g e fun _ q => nomatch q)
theorem Tk.ne {b D : Addr} {o : HO} (g : TabG H P') (k : Tk P' H H') (e : H b = some o) (n : H' D = none) : b ≠ D := by
  intro z
  by_cases hb : b = P'
  · obtain ⟨ps, q, _⟩ := k.1
    rw [← z, hb, q] at n
    cases n
  · rw [← z, k.2 b o e hb] at n
    cases n
theorem Tk.free {D : Addr} (g : TabG H P') (k : Tk P' H H') (n : H' D = none) : H D = none := by
  cases e : H D with
  | none => rfl
  | some o => exact absurd rfl (k.ne g e n)
/-- a new list may change -/
theorem Tk.put {D : Addr} {o : HO} (g : TabG H P') (h : H D = none) (k : Tk P' H H') (hD : TabG (upd H' D o) P') : Tk P' H (upd H' D o) := ⟨hD, fun b u e n => by
  rw [upd_ne (ne_of_none e h)]
  exact k.2 b u e n⟩
theorem tab_put {D : Addr} {xs : List V} {o : HO} (g : TabG H P') (e : H D = some (.lst xs)) : TabG (upd H D o) P' := by
  have n := tab_ne g e fun _ q => nomatch q
  obtain ⟨ps, q, t⟩ := g
  exact ⟨ps, (upd_ne n.symm).trans q, t⟩
theorem Pen.tk {p L : Addr} {ns : List Int} {n : Nat} (h : Pen H p L ns n) (g : TabG H P') (k : Tk P' H H') : Pen H' p L ns n := h.kt g k.2
end
/-! ### lists of records read along -/
/-- promises of what is told of masters and a name -/
def spMsL (K : PySem.W.Frag) (R : List MaM → Str → Hp → Addr → Prop) : Sp := fun vs H Q _ => ∃ (v : V) (z : Str) (ms : List MaM), vs = [v, .str z] ∧ Dp K H v (.tuple (ms.map MaM.d)) ∧ OkMs ms ∧ (∃ m ∈ ms, m.name = z) ∧
  ∀ (D : Addr) (H' : Hp), Same H H' → H D = none → R ms z H' D → Q (.ref D) H'
def spMsT (K : PySem.W.Frag) (P' : Addr) (R : List MaM → Str → Hp → Addr → Prop) : Sp := fun vs H Q _ => ∃ (v : V) (z : Str) (ms : List MaM), vs = [v, .str z] ∧ Dp K H v (.tuple (ms.map MaM.d)) ∧ OkMs ms ∧ (∃ m ∈ ms, m.name = z) ∧ TabG H P' ∧
  ∀ (D : Addr) (H' : Hp), Tk P' H H' → H D = none → R ms z H' D → Q (.ref D) H'
def RChn (K : PySem.W.Frag) : List MaM → Str → Hp → Addr → Prop := fun ms z H' D => ∃ xs, H' D = some (.lst xs) ∧ DpAll K H' xs ((chn ms z).map MaM.d)
def RNms : List MaM → Str → Hp → Addr → Prop := fun ms z H' D => H' D = some (.lst (((chn ms z).map (·.name)).map V.str))
def RThere : List MaM → Str → Hp → Addr → Prop := fun ms z H' D => H' D = some (.lst ((there ms z).map V.str))
theorem small_big {n : Nat} (h : n ≤ 100000) : n < sizeLine := by
  rw [sizeLine_eq]
  omega
/-! ### data all the same -/
mutual
def slim : PyData → Bool
  | .tuple ds => decide (ds.length ≤ 100000) && slimAll ds
  | .list ds => decide (ds.length ≤ 100000) && slimAll ds
  | _ => true
def slimAll : List PyData → Bool
  | [] => true
  | d :: r => slim d && slimAll r
end
mutual
def dep : PyData → Nat
  | .tuple ds => depAll ds + 1
  | .list ds => depAll ds + 1
  | _ => 0
def depAll : List PyData → Nat
  | [] => 0
  | d :: r => max (dep d) (depAll r)
end
theorem slim_at : ∀ {ds : List PyData} {d : PyData}, slimAll ds = true → d ∈ ds → slim d = true
  | [], _, _, h => nomatch h
  | a :: r, d, s, h => by
    simp only [slimAll, Bool.and_eq_true] at s
    rcases List.mem_cons.mp h with rfl | h
    · exact s.1
    · exact slim_at s.2 h
theorem slim_all : ∀ {ds : List PyData}, (∀ d ∈ ds, slim d = true) → slimAll ds = true
  | [], _ => by simp only [slimAll]
  | d :: r, h => by simp only [slimAll, h d List.mem_cons_self, slim_all fun x hx => h x (List.mem_cons_of_mem _ hx), Bool.and_self]
theorem dep_at : ∀ {ds : List PyData} {d : PyData}, d ∈ ds → dep d ≤ depAll ds
  | [], _, h => nomatch h
  | a :: r, d, h => by
    simp only [depAll]
    rcases List.mem_cons.mp h with rfl | h
    · omega
    · have := dep_at h
      omega
theorem dep_all : ∀ {ds : List PyData} {n : Nat}, (∀ d ∈ ds, dep d ≤ n) → depAll ds ≤ n
  | [], _, _ => by simp only [depAll]; omega
  | d :: r, n, h => by
    have h1 := h d List.mem_cons_self
    have h2 := dep_all fun x hx => h x (List.mem_cons_of_mem _ hx)
    simp only [depAll]
    omega
def tyN : PyData → String
  | .none => "NoneType"
  | .bool _ => "bool"
  | .int _ => "int"
  | .str _ => "str"
  | .list _ => "list"
  | .tuple _ => "tuple"
  | _ => "dict"
theorem sqL_ty {K : PySem.W.Frag} {H : Hp} {a : Addr} {xs : List V} (e : SqL K H a xs) : TyX K H (.ref a) (.type "list") := by
  rcases e with (e | ⟨o, e⟩) | ⟨o, its, n, e, c, _⟩
  · exact .base (.lst e)
  · exact .base (.frz e)
  · exact .kList e c
theorem sqT_ty {K : PySem.W.Frag} {H : Hp} {a : Addr} {xs : List V} (e : SqT K H a xs) : TyX K H (.ref a) (.type "tuple") := by
  rcases e with (e | ⟨o, e⟩) | ⟨o, its, n, e, c, _⟩
  · exact .base (.tup e)
  · exact .fTuple e
  · exact .kTuple e c
theorem dp_ty {K : PySem.W.Frag} {H : Hp} {v : V} {d : PyData} (h : Dp K H v d) : TyX K H v (.type (tyN d)) := by
  cases h with
  | non => exact .base .non
  | bl b => exact .base (.bl b)
  | int i => exact .base (.int i)
  | str x => exact .base (.str x)
  | lst s _ => exact sqL_ty s
  | tup s _ => exact sqT_ty s
/-- zip of two tuples, as a walk -/
theorem walk_zipT {K : PySem.W.Frag} {a b : Addr} {xs ys : List V} {n : Nat} (hn : n = min xs.length ys.length) : Walk (RZ.ItzT K a b) n (fun H => SqT K H a xs ∧ SqT K H b ys) (YPair (fun i => xs[i]?) (fun i => ys[i]?)) := by
  subst hn
  refine ⟨fun i _ hi q => ?_, fun _ q => ⟨xs, ys, q.1, q.2, by omega⟩, fun i H v H' _ q y => ?_⟩
  · have h1 : i < xs.length := by omega
    have h2 : i < ys.length := by omega
    exact ⟨xs, ys, xs[i], ys[i], q.1, q.2, by simp [h1], by simp [h2]⟩
  · obtain ⟨T, x, z, h1, h2, h3, h4, h5⟩ := y
    exact ⟨T, x, z, h1, h2, h3, h4 xs q.1, h5 ys q.2⟩
/-! ### data stays -/
theorem dp_lst {K : PySem.W.Frag} {H : Hp} {v : V} {ds : List PyData} (h : Dp K H v (.list ds)) : ∃ a xs, v = .ref a ∧ SqL K H a xs ∧ DpAll K H xs ds := by
  cases h with
  | lst s h => exact ⟨_, _, rfl, s, h⟩
theorem dp_bl {K : PySem.W.Frag} {H : Hp} {v : V} {b : Bool} (h : Dp K H v (.bool b)) : v = .bl b := by
  cases h
  rfl
mutual
theorem dp_same {K : PySem.W.Frag} {H H' : Hp} (s : Same H H') : ∀ {v : V} {d : PyData}, Dp K H v d → Dp K H' v d
  | _, _, .non => .non
  | _, _, .bl b => .bl b
  | _, _, .int i => .int i
  | _, _, .str x => .str x
  | _, _, .lst q h => .lst (s.seq q) (dpAll_same s h)
  | _, _, .tup q h => .tup (sqT_same s q) (dpAll_same s h)
theorem dpAll_same {K : PySem.W.Frag} {H H' : Hp} (s : Same H H') : ∀ {vs : List V} {ds : List PyData}, DpAll K H vs ds → DpAll K H' vs ds
  | _, _, .nil => .nil
  | _, _, .cons h t => .cons (dp_same s h) (dpAll_same s t)
end
def isSeq : PyData → Bool
  | .tuple _ => true
  | .list _ => true
  | _ => false
theorem any2 {K : PySem.W.Frag} {v : V} {H : Hp} {d : PyData} (h : Dp K H v d) : PySem.W.kitAny K (.type (tyN d)) [.type "tuple", .type "list"] = some (isSeq d) := by
  cases h with
  | non => exact kitAny_cons (kit_ty (a := "NoneType") (r := false) (by decide +kernel)) (fun _ => kitAny_cons (kit_ty (a := "NoneType") (r := false) (by decide +kernel)) (fun _ => kitAny_nil) (fun z => nomatch z)) (fun z => nomatch z)
  | bl b => exact kitAny_cons (kit_ty (a := "bool") (r := false) (by decide +kernel)) (fun _ => kitAny_cons (kit_ty (a := "bool") (r := false) (by decide +kernel)) (fun _ => kitAny_nil) (fun z => nomatch z)) (fun z => nomatch z)
  | int i => exact kitAny_cons (kit_ty (a := "int") (r := false) (by decide +kernel)) (fun _ => kitAny_cons (kit_ty (a := "int") (r := false) (by decide +kernel)) (fun _ => kitAny_nil) (fun z => nomatch z)) (fun z => nomatch z)
  | str x => exact kitAny_cons (kit_ty (a := "str") (r := false) (by decide +kernel)) (fun _ => kitAny_cons (kit_ty (a := "str") (r := false) (by decide +kernel)) (fun _ => kitAny_nil) (fun z => nomatch z)) (fun z => nomatch z)
  | lst _ _ => exact kitAny_cons (kit_ty (a := "list") (r := false) (by decide +kernel)) (fun _ => kitAny_cons (kit_ty (a := "list") (r := true) (by decide +kernel)) (fun z => nomatch z) (fun _ => rfl)) (fun z => nomatch z)
  | tup _ _ => exact kitAny_cons (kit_ty (a := "tuple") (r := true) (by decide +kernel)) (fun z => nomatch z) (fun _ => rfl)
theorem one_ty {K : PySem.W.Frag} {v : V} {H : Hp} {d : PyData} (h : Dp K H v d) {c : String} {r : Bool} (e : L2.kitB (tyN d) c = some r) : ∃ t, TyX K H v t ∧ PySem.W.kitOne K t (.type c) = some r := ⟨_, dp_ty h, kit_ty e⟩
theorem pair2 : Paired ClsV [V.ty "tuple", V.ty "list"] [Value.type "tuple", Value.type "list"] := .cons (.ty _) (.cons (.ty _) .nil)
theorem ones_all {n : Nat} : (List.replicate n true).all id = true := List.all_eq_true.mpr fun b hb => by rw [(List.mem_replicate.mp hb).2] <;> rfl
theorem noLAll_app : ∀ {ds es : List PyData}, noLAll (ds ++ es) = (noLAll ds && noLAll es)
  | [], es => by simp only [List.nil_append, noLAll, Bool.true_and]
  | d :: r, es => by simp only [List.cons_append, noLAll, noLAll_app, Bool.and_assoc]
theorem dpAll_rev {K : PySem.W.Frag} {H : Hp} : ∀ {xs : List V} {ds : List PyData}, DpAll K H xs ds → DpAll K H xs.reverse ds.reverse
  | _, _, .nil => .nil
  | _, _, .cons h t => by
    rw [List.reverse_cons, List.reverse_cons]
    exact dpAll_app (dpAll_rev t) (.cons h .nil)
end Gm

set_option Elab.async false
set_option linter.all false
set_option maxRecDepth 100000
set_option maxHeartbeats 2000000
/-! Kinds of things, errors by their classes, what masters say of a place. -/
namespace Gk
open PySem PySem.Spec PyProof.Rows L2 GxR Gx Gd Gn Gm Gc
/-! ### traits -/
def TR : List V := TRS.map V.str
def traitV : V → Bool
  | .str z => inV (.str z) TR
  | _ => false
theorem traitV_no {v : V} (h : isStr v = false) : traitV v = false := by
  cases v <;> first | rfl | cases h
theorem trait_mem {v : V} (h : traitV v = true) : ∃ z, v = .str z ∧ z ∈ TRS := by
  cases v with
  | str z =>
    refine ⟨z, rfl, ?_⟩
    rw [show traitV (.str z) = inV (.str z) (TRS.map V.str) from rfl, inV_strs] at h
    exact of_decide_eq_true h
  | _ => cases h
theorem trait_true {z : Str} (h : z ∈ TRS) : traitV (.str z) = true := by
  rw [show traitV (.str z) = inV (.str z) (TRS.map V.str) from rfl, inV_strs]
  exact decide_eq_true h
/-! ### whole numbers -/
def wholeV : V → Bool
  | .int _ => true
  | _ => false
def isInt : V → Bool
  | .int _ => true
  | .bl _ => true
  | _ => false
theorem Th.int_ {K : PySem.W.Frag} {H : Hp} {v : V} (h : Th H v) : ∃ t, TyX K H v t ∧ PySem.W.kitOne K t (.type "int") = some (isInt v) := by
  cases h with
  | non => exact ⟨_, .base .non, kit_ty (r := false) (by decide +kernel)⟩
  | bl b => exact ⟨_, .base (.bl b), kit_ty (r := true) (by decide +kernel)⟩
  | int i => exact ⟨_, .base (.int i), kit_ty (r := true) (by decide +kernel)⟩
  | str z => exact ⟨_, .base (.str z), kit_ty (r := false) (by decide +kernel)⟩
  | lst e => exact ⟨_, .base (.lst e), kit_ty (r := false) (by decide +kernel)⟩
  | tup e => exact ⟨_, .base (.tup e), kit_ty (r := false) (by decide +kernel)⟩
  | dK e => exact ⟨_, .base (.dK e), kit_ty (r := false) (by decide +kernel)⟩
theorem Th.bool_ {K : PySem.W.Frag} {H : Hp} {v : V} (h : Th H v) : ∃ t, TyX K H v t ∧ PySem.W.kitOne K t (.type "bool") = some (isBl v) := by
  cases h with
  | non => exact ⟨_, .base .non, kit_ty (r := false) (by decide +kernel)⟩
  | bl b => exact ⟨_, .base (.bl b), kit_ty (r := true) (by decide +kernel)⟩
  | int i => exact ⟨_, .base (.int i), kit_ty (r := false) (by decide +kernel)⟩
  | str z => exact ⟨_, .base (.str z), kit_ty (r := false) (by decide +kernel)⟩
  | lst e => exact ⟨_, .base (.lst e), kit_ty (r := false) (by decide +kernel)⟩
  | tup e => exact ⟨_, .base (.tup e), kit_ty (r := false) (by decide +kernel)⟩
  | dK e => exact ⟨_, .base (.dK e), kit_ty (r := false) (by decide +kernel)⟩
theorem Ok1.tk {P' : Addr} {H H' : Hp} {v : V} (h : Ok1 H v) (g : TabG H P') (k : Tk P' H H') : Ok1 H' v := ⟨h.1.kt g k.2, h.2⟩
theorem Ok1.same {H H' : Hp} {v : V} (h : Ok1 H v) (s : Same H H') : Ok1 H' v := ⟨h.1.same s, h.2⟩
theorem name_small {z : Str} (h : nameB z = true) : z.length ≤ 8 := by
  unfold nameB at h
  simp only [Bool.and_eq_true, decide_eq_true_eq] at h
  omega
/-! ### errors' classes -/
structure Er (K : PySem.W.Frag) (mg : Str → Option Value) (nm : Str) : Prop extends ExF K (He.ga K nm) where
  g : mg nm = some (.ref (He.ga K nm))
/-! ### what the chain says of a place -/
def fndV (ms : List MaM) : V → Option MaM
  | .str z => fnd ms z
  | _ => none
theorem fndV_some {ms : List MaM} {v : V} {m : MaM} (h : fndV ms v = some m) : v = .str m.name ∧ fnd ms m.name = some m := by
  cases v with
  | str z =>
    have e := (fnd_some (show fnd ms z = some m from h)).2
    rw [e]
    exact ⟨rfl, h⟩
  | _ => cases h
def said (l : List MaM) (y : Str) : List (Str × PlM) := l.flatMap fun m => (m.own.filter fun p => decide (p.name = y)).map fun p => (m.name, p)
def saidV (l : List MaM) : V → List (Str × PlM)
  | .str y => said l y
  | _ => []
def sd (s : Str × PlM) : PyData := .tuple [.str s.1, .tuple (s.2.sets.map setD), textD s.2.text]
theorem said_app (a b : List MaM) (y : Str) : said (a ++ b) y = said a y ++ said b y := List.flatMap_append
theorem said_one (m : MaM) (y : Str) : said [m] y = (m.own.filter fun p => decide (p.name = y)).map fun p => (m.name, p) := by
  unfold said
  rw [List.flatMap_cons, List.flatMap_nil, List.append_nil]
theorem said_len {y : Str} : ∀ {l : List MaM}, (∀ m ∈ l, m.own.length ≤ 8) → (said l y).length ≤ 8 * l.length
  | [], _ => Nat.zero_le _
  | m :: r, h => by
    have ih := said_len (y := y) (l := r) fun x hx => h x (List.mem_cons_of_mem _ hx)
    have h1 := h m List.mem_cons_self
    have h2 := List.length_filter_le (fun p : PlM => decide (p.name = y)) m.own
    show (((m.own.filter fun p => decide (p.name = y)).map fun p => (m.name, p)) ++ said r y).length ≤ _
    rw [List.length_append, List.length_map, List.length_cons]
    omega
theorem said_pl {l : List MaM} {y : Str} {s : Str × PlM} (h : s ∈ said l y) : ∃ m ∈ l, s.1 = m.name ∧ s.2 ∈ m.own ∧ s.2.name = y := by
  obtain ⟨m, hm, h⟩ := List.mem_flatMap.mp h
  obtain ⟨p, hp, rfl⟩ := List.mem_map.mp h
  obtain ⟨h1, h2⟩ := List.mem_filter.mp hp
  exact ⟨m, hm, rfl, h1, of_decide_eq_true h2⟩
def wfind : List (Str × PlM) → Str → Option (PyData × Str)
  | [], _ => none
  | s :: r, t => match s.2.sets.find? fun x => decide (x.1 = t) with
    | some x => some (x.2, s.1)
    | none => wfind r t
def tfind : List (Str × PlM) → Option (List Str × Str)
  | [] => none
  | s :: r => match s.2.text with
    | some x => some (x, s.1)
    | none => tfind r
def ownW (t : Str) : PyData := if t = "left" then .int 0 else if t = "top" then .int 0 else if t = "wide" then .int 40 else if t = "high" then .int 10 else if t = "size" then .int 1 else .str "plain"
def resW (l : List (Str × PlM)) (t : Str) : PyData := match wfind l t with
  | some x => .tuple [x.1, .tuple [.str "master", .str x.2]]
  | none => .tuple [ownW t, .tuple [.str "own"]]
def resT (l : List (Str × PlM)) : PyData := match tfind l with
  | some x => .tuple [.tuple (x.1.map .str), .str x.2]
  | none => .tuple [.none, .none]
theorem wfind_app {t : Str} : ∀ {a b : List (Str × PlM)}, wfind a t = none → wfind (a ++ b) t = wfind b t
  | [], _, _ => rfl
  | s :: r, b, h => by
    unfold wfind at h
    rw [List.cons_append]
    show wfind (s :: (r ++ b)) t = _
    rw [wfind]
    cases e : s.2.sets.find? fun x => decide (x.1 = t) with
    | some x =>
      rw [e] at h
      cases h
    | none =>
      rw [e] at h
      exact wfind_app h
theorem wfind_one {s : Str × PlM} {r : List (Str × PlM)} {t : Str} {x : Str × PyData} (h : (s.2.sets.find? fun x => decide (x.1 = t)) = some x) : wfind (s :: r) t = some (x.2, s.1) := by
  rw [wfind, h]
theorem wfind_no {s : Str × PlM} {r : List (Str × PlM)} {t : Str} (h : (s.2.sets.find? fun x => decide (x.1 = t)) = none) : wfind (s :: r) t = wfind r t := by
  rw [wfind, h]
theorem tfind_app : ∀ {a b : List (Str × PlM)}, tfind a = none → tfind (a ++ b) = tfind b
  | [], _, _ => rfl
  | s :: r, b, h => by
    unfold tfind at h
    rw [List.cons_append]
    show tfind (s :: (r ++ b)) = _
    rw [tfind]
    cases e : s.2.text with
    | some x =>
      rw [e] at h
      cases h
    | none =>
      rw [e] at h
      exact tfind_app h
theorem tfind_one {s : Str × PlM} {r : List (Str × PlM)} {x : List Str} (h : s.2.text = some x) : tfind (s :: r) = some (x, s.1) := by
  rw [tfind, h]
theorem tfind_no {s : Str × PlM} {r : List (Str × PlM)} (h : s.2.text = none) : tfind (s :: r) = tfind r := by
  rw [tfind, h]
theorem find_at {α : Type} {p : α → Bool} {l : List α} {j : Nat} {x : α} (e : l[j]? = some x) (h : p x = true) (n : (l.take j).find? p = none) : l.find? p = some x := by
  have hl := (List.getElem?_eq_some_iff.mp e).1
  have ed : l = l.take j ++ x :: l.drop (j + 1) := by
    have h1 := List.take_append_drop j l
    rw [List.drop_eq_getElem_cons hl, (List.getElem?_eq_some_iff.mp e).2] at h1
    exact h1.symm
  rw [ed, List.find?_append, n, List.find?_cons, h] <;> rfl
theorem find_more {α : Type} {p : α → Bool} {l : List α} {j : Nat} {x : α} (e : l[j]? = some x) (h : p x = false) (n : (l.take j).find? p = none) : (l.take (j + 1)).find? p = none := by
  rw [take_more e, List.find?_append, n, List.find?_cons, h] <;> rfl
theorem split_at {α : Type} {l : List α} {j : Nat} {x : α} (e : l[j]? = some x) : l = l.take j ++ x :: l.drop (j + 1) := by
  have hl := (List.getElem?_eq_some_iff.mp e).1
  have h1 := List.take_append_drop j l
  rw [List.drop_eq_getElem_cons hl, (List.getElem?_eq_some_iff.mp e).2] at h1
  exact h1.symm
/-- each place told is one of some master of the chain -/
theorem fold_mem {y : Str} : ∀ {l acc : List Str}, y ∈ l.foldl addN acc → y ∈ acc ∨ y ∈ l
  | [], acc, h => .inl h
  | z :: r, acc, h => by
    rcases fold_mem (l := r) (acc := addN acc z) h with h | h
    · unfold addN at h
      split at h
      · exact .inl h
      · rcases List.mem_append.mp h with h | h
        · exact .inl h
        · exact .inr (by rw [List.mem_singleton.mp h]; exact List.mem_cons_self)
    · exact .inr (List.mem_cons_of_mem _ h)
theorem there_said {ms : List MaM} {z y : Str} (h : y ∈ there ms z) : said (chn ms z) y ≠ [] ∧ ∃ m ∈ chn ms z, ∃ p ∈ m.own, p.name = y := by
  rcases fold_mem h with h | h
  · cases h
  · obtain ⟨m, hm, h⟩ := List.mem_flatMap.mp h
    obtain ⟨p, hp, rfl⟩ := List.mem_map.mp h
    have hm := List.mem_reverse.mp hm
    refine ⟨fun e => ?_, m, hm, p, hp, rfl⟩
    have : (m.name, p) ∈ said (chn ms z) p.name := List.mem_flatMap.mpr ⟨m, hm, List.mem_map.mpr ⟨p, List.mem_filter.mpr ⟨hp, decide_eq_true rfl⟩, rfl⟩⟩
    rw [e] at this
    cases this
theorem sd_at {K : PySem.W.Frag} {H : Hp} {v : V} {s : Str × PlM} (h : Dp K H v (sd s)) : ∃ a g ss u, v = .ref a ∧ SqT K H a [.str s.1, .ref g, u] ∧ SqT K H g ss ∧ DpAll K H ss (s.2.sets.map setD) ∧ Dp K H u (textD s.2.text) := by
  unfold sd at h
  obtain ⟨a, xs, rfl, st, hx⟩ := dp_tup h
  cases hx with
  | cons h1 t1 =>
    cases t1 with
    | cons h2 t2 =>
      cases t2 with
      | cons h3 t3 =>
        cases t3
        obtain rfl := dp_str h1
        obtain ⟨g, ps, rfl, sg, hp⟩ := dp_tup h2
        exact ⟨a, g, ps, _, rfl, st, sg, hp, h3⟩
theorem noL_setD {p : PlM} (h : OkPl p) : noLAll (p.sets.map setD) = true := noL_all fun d hd => by
  obtain ⟨s, hs, rfl⟩ := List.mem_map.mp hd
  unfold setD
  simp only [Gd.noL, noLAll, flat_noL (wOk_flat (h.right s hs).2), Bool.and_self]
theorem noL_text (o : Option (List Str)) : Gd.noL (textD o) = true := by
  cases o with
  | none => simp only [textD, Gd.noL]
  | some l =>
    simp only [textD, Gd.noL]
    exact noL_all fun d hd => by
      obtain ⟨z, _, rfl⟩ := List.mem_map.mp hd
      simp only [Gd.noL]
theorem noL_sd {s : Str × PlM} (h : OkPl s.2) : Gd.noL (sd s) = true := by
  unfold sd
  simp only [Gd.noL, noLAll, noL_setD h, noL_text, Bool.and_self]
theorem wfind_mem {t : Str} {x : PyData × Str} : ∀ {l : List (Str × PlM)}, wfind l t = some x → ∃ s ∈ l, ∃ e ∈ s.2.sets, x.1 = e.2
  | [], h => nomatch h
  | s :: r, h => by
    rw [wfind] at h
    cases e : s.2.sets.find? fun x => decide (x.1 = t) with
    | some y =>
      rw [e] at h
      cases h
      exact ⟨s, List.mem_cons_self, y, List.mem_of_find?_eq_some e, rfl⟩
    | none =>
      rw [e] at h
      obtain ⟨s', hs, q⟩ := wfind_mem h
      exact ⟨s', List.mem_cons_of_mem _ hs, q⟩
theorem tfind_mem {x : List Str × Str} : ∀ {l : List (Str × PlM)}, tfind l = some x → ∃ s ∈ l, s.2.text = some x.1
  | [], h => nomatch h
  | s :: r, h => by
    rw [tfind] at h
    cases e : s.2.text with
    | some y =>
      rw [e] at h
      cases h
      exact ⟨s, List.mem_cons_self, e⟩
    | none =>
      rw [e] at h
      obtain ⟨s', hs, q⟩ := tfind_mem h
      exact ⟨s', List.mem_cons_of_mem _ hs, q⟩
theorem flat_plain {d : PyData} (h : flatW d = true) : dep d = 0 ∧ slim d = true ∧ Gd.noL d = true := by
  cases d with
  | int i => exact ⟨by simp only [dep], by simp only [slim], by simp only [Gd.noL]⟩
  | str z => exact ⟨by simp only [dep], by simp only [slim], by simp only [Gd.noL]⟩
  | _ => cases h
theorem own_flat (t : Str) : flatW (ownW t) = true := by
  unfold ownW
  repeat (split; · rfl)
  rfl
theorem resW_ok {l : List (Str × PlM)} {t : Str} (h : ∀ s ∈ l, OkPl s.2) : dep (resW l t) = 2 ∧ slim (resW l t) = true ∧ Gd.noL (resW l t) = true := by
  unfold resW
  cases e : wfind l t with
  | none =>
    obtain ⟨h1, h2, h3⟩ := flat_plain (own_flat t)
    simp [dep, depAll, slim, slimAll, Gd.noL, noLAll, h1, h2, h3]
  | some x =>
    obtain ⟨s, hs, e', he, ex⟩ := wfind_mem e
    obtain ⟨h1, h2, h3⟩ := flat_plain (wOk_flat ((h s hs).right e' he).2)
    simp [dep, depAll, slim, slimAll, Gd.noL, noLAll, ex, h1, h2, h3]
theorem strs_plain {l : List Str} (h : l.length ≤ 1000) : depAll (l.map PyData.str) = 0 ∧ slimAll (l.map PyData.str) = true ∧ noLAll (l.map PyData.str) = true := by
  refine ⟨Nat.le_zero.mp (dep_all fun d hd => ?_), slim_all fun d hd => ?_, noL_all fun d hd => ?_⟩ <;> (obtain ⟨z, _, rfl⟩ := List.mem_map.mp hd)
  · simp only [dep, Nat.le_refl]
  · simp only [slim]
  · simp only [Gd.noL]
theorem resT_ok {l : List (Str × PlM)} (h : ∀ s ∈ l, OkPl s.2) : dep (Gk.resT l) ≤ 2 ∧ slim (Gk.resT l) = true ∧ Gd.noL (Gk.resT l) = true := by
  unfold Gk.resT
  cases e : tfind l with
  | none =>
    simp only [dep, depAll, slim, slimAll, Gd.noL, noLAll]
    decide
  | some x =>
    obtain ⟨s, hs, ex⟩ := tfind_mem e
    have hl := ((h s hs).text _ ex).1
    obtain ⟨h1, h2, h3⟩ := strs_plain (l := x.1) (by omega)
    simp [dep, depAll, slim, slimAll, Gd.noL, noLAll, h1, h2, h3, List.length_map, show x.1.length ≤ 100000 by omega]
theorem said_ok {l : List MaM} {y : Str} (h : ∀ m ∈ l, OkMa m) : ∀ s ∈ said l y, OkPl s.2 := fun s hs => by
  obtain ⟨m, hm, _, h2, _⟩ := said_pl hs
  exact ((h m hm).own _ h2).1
/-! ### slots wiped -/
theorem wipe_set_out {σ : L2.St} {i : Nat} {x : Option V} : ∀ {vs : List Nat}, i ∉ vs → wipe (σ.set i x) vs = (wipe σ vs).set i x
  | [], _ => rfl
  | v :: r, h => by
    have h1 : v ≠ i := fun e => h (by rw [e]; exact List.mem_cons_self)
    have ih := wipe_set_out (σ := σ) (x := x) (vs := r) fun m => h (List.mem_cons_of_mem _ m)
    show (wipe (σ.set i x) r).set v none = ((wipe σ r).set v none).set i x
    rw [ih, List.set_comm _ _ h1]
theorem wipe_set {σ : L2.St} {i : Nat} {x : Option V} : ∀ {vs : List Nat}, i ∈ vs → wipe (σ.set i x) vs = wipe σ vs
  | [], h => nomatch h
  | v :: r, h => by
    show (wipe (σ.set i x) r).set v none = (wipe σ r).set v none
    by_cases m : i ∈ r
    · rw [wipe_set m]
    · have e : i = v := (List.mem_cons.mp h).resolve_right m
      rw [wipe_set_out m, e, List.set_set]
theorem wipe_wipe (σ : L2.St) : ∀ vs : List Nat, wipe (wipe σ vs) vs = wipe σ vs
  | [] => rfl
  | v :: r => by
    show wipe ((wipe σ r).set v none) (v :: r) = _
    rw [wipe_set List.mem_cons_self]
    show (wipe (wipe σ r) r).set v none = (wipe σ r).set v none
    rw [wipe_wipe σ r]
theorem wset1 {σ : L2.St} {vs : List Nat} {i : Nat} {a : Option V} (hi : i ∈ vs) : wipe ((wipe σ vs).set i a) vs = wipe σ vs := by rw [wipe_set hi, wipe_wipe]
theorem wset2 {σ : L2.St} {vs : List Nat} {i j : Nat} {a b : Option V} (hi : i ∈ vs) (hj : j ∈ vs) : wipe (((wipe σ vs).set i a).set j b) vs = wipe σ vs := by rw [wipe_set hj, wset1 hi]
theorem wset3 {σ : L2.St} {vs : List Nat} {i j k : Nat} {a b c : Option V} (hi : i ∈ vs) (hj : j ∈ vs) (hk : k ∈ vs) : wipe ((((wipe σ vs).set i a).set j b).set k c) vs = wipe σ vs := by rw [wipe_set hk, wset2 hi hj]
/-! ### comprehensions of two fors -/
section
variable {J J1 : It} {n : Nat} {G : Hp → Prop} {Y : Nat → Hp → V → Hp → Prop}
theorem lc2_it (w : Walk J n G Y) {g g1 : TG} {tt tt1 : TT} {wi1 : TI} {te : TE} {vs vs1 : List Nat} {σ : L2.St} {H1 : Hp} {D : Addr} {Qd : Hp → Prop} (Pv : Nat → Hp → Prop) (h0 : Pv 0 (upd H1 D (.lst []))) (hG : ∀ i H, i ≤ n → Pv i H → G H)
    (hs : ∀ i x H H', i < n → Pv i H → Y i H x H' → g x (wipe σ vs) H' fun σ2 H2 => wipe σ2 vs = wipe σ vs ∧ tt σ2 H2 fun b H3 => if b = true then wi1 σ2 H3 fun J1 H4 => ∃ W1 : Nat → Nat → Hp → Prop, (∃ m, W1 0 m H4) ∧ ∀ j k H, W1 j k H →
      (J1.stop j H ∧ Pv (i + 1) H) ∨ (J1.go j H ∧ ∃ Nx1 : Hp → Prop, (∀ H', Nx1 H' → ∃ k', k' < k ∧ W1 (j + 1) k' H') ∧ ∀ x H', J1.yld j H x H' → g1 x (wipe σ2 vs1) H' fun σ3 H5 => wipe σ3 vs1 = wipe σ2 vs1 ∧ tt1 σ3 H5 fun b H6 =>
        if b = true then te σ3 H6 fun y H7 => ∃ acc, H7 D = some (.lst acc) ∧ acc.length < sizeLine ∧ Nx1 (upd H7 D (.lst (acc ++ [y]))) else Nx1 H6)
    else Pv (i + 1) H3) (hd : ∀ H, Pv n H → Qd H) :
    ∃ W : Nat → Nat → Hp → Prop, (∃ m, W 0 m (upd H1 D (.lst []))) ∧ ∀ i m H, W i m H →
  (J.stop i H ∧ Qd H) ∨ (J.go i H ∧ ∃ Nx : Hp → Prop, (∀ H', Nx H' → ∃ m', m' < m ∧ W (i + 1) m' H') ∧ ∀ x H', J.yld i H x H' → g x (wipe σ vs) H' fun σ2 H2 => wipe σ2 vs = wipe σ vs ∧ tt σ2 H2 fun b H3 =>
    if b = true then wi1 σ2 H3 fun J1 H4 => ∃ W1 : Nat → Nat → Hp → Prop, (∃ m, W1 0 m H4) ∧ ∀ j k H, W1 j k H →
      (J1.stop j H ∧ Nx H) ∨ (J1.go j H ∧ ∃ Nx1 : Hp → Prop, (∀ H', Nx1 H' → ∃ k', k' < k ∧ W1 (j + 1) k' H') ∧ ∀ x H', J1.yld j H x H' → g1 x (wipe σ2 vs1) H' fun σ3 H5 => wipe σ3 vs1 = wipe σ2 vs1 ∧ tt1 σ3 H5 fun b H6 =>
        if b = true then te σ3 H6 fun y H7 => ∃ acc, H7 D = some (.lst acc) ∧ acc.length < sizeLine ∧ Nx1 (upd H7 D (.lst (acc ++ [y]))) else Nx1 H6)
    else Nx H3) := by
  refine ⟨fun i m H => m = n - i ∧ i ≤ n ∧ Pv i H, ⟨n, by simp, Nat.zero_le _, h0⟩, ?_⟩
  rintro i m H ⟨rfl, hi, p⟩
  have q := hG i H hi p
  by_cases hlt : i < n
  · refine .inr ⟨w.goes i H hlt q, Pv (i + 1), fun H' p' => ⟨n - (i + 1), by omega, rfl, hlt, p'⟩, fun x H' y => hs i x H H' hlt p (w.yields i H x H' hlt q y)⟩
  · have e : i = n := by omega
    subst e
    exact .inl ⟨w.stops H q, hd H p⟩
/-- the inner one -/
theorem lcin_it (w : Walk J1 n G Y) {g1 : TG} {tt1 : TT} {te : TE} {vs1 : List Nat} {σ2 : L2.St} {H4 : Hp} {D : Addr} {Qd : Hp → Prop} (Pv : Nat → Hp → Prop) (h0 : Pv 0 H4) (hG : ∀ i H, i ≤ n → Pv i H → G H)
    (hs : ∀ j x H H', j < n → Pv j H → Y j H x H' → g1 x (wipe σ2 vs1) H' fun σ3 H5 => wipe σ3 vs1 = wipe σ2 vs1 ∧ tt1 σ3 H5 fun b H6 =>
        if b = true then te σ3 H6 fun y H7 => ∃ acc, H7 D = some (.lst acc) ∧ acc.length < sizeLine ∧ Pv (j + 1) (upd H7 D (.lst (acc ++ [y]))) else Pv (j + 1) H6) (hd : ∀ H, Pv n H → Qd H) :
    ∃ W1 : Nat → Nat → Hp → Prop, (∃ m, W1 0 m H4) ∧ ∀ j k H, W1 j k H →
      (J1.stop j H ∧ Qd H) ∨ (J1.go j H ∧ ∃ Nx1 : Hp → Prop, (∀ H', Nx1 H' → ∃ k', k' < k ∧ W1 (j + 1) k' H') ∧ ∀ x H', J1.yld j H x H' → g1 x (wipe σ2 vs1) H' fun σ3 H5 => wipe σ3 vs1 = wipe σ2 vs1 ∧ tt1 σ3 H5 fun b H6 =>
        if b = true then te σ3 H6 fun y H7 => ∃ acc, H7 D = some (.lst acc) ∧ acc.length < sizeLine ∧ Nx1 (upd H7 D (.lst (acc ++ [y]))) else Nx1 H6) := by
  refine ⟨fun i m H => m = n - i ∧ i ≤ n ∧ Pv i H, ⟨n, by simp, Nat.zero_le _, h0⟩, ?_⟩
  rintro i m H ⟨rfl, hi, p⟩
  have q := hG i H hi p
  by_cases hlt : i < n
  · refine .inr ⟨w.goes i H hlt q, Pv (i + 1), fun H' p' => ⟨n - (i + 1), by omega, rfl, hlt, p'⟩, fun x H' y => hs i x H H' hlt p (w.yields i H x H' hlt q y)⟩
  · have e : i = n := by omega
    subst e
    exact .inl ⟨w.stops H q, hd H p⟩
theorem lc2_itE (w : Walk J n G Y) {g g1 : TG} {tt tt1 : TT} {wi1 : TI} {te : TE} {vs vs1 : List Nat} {σ : L2.St} {H1 : Hp} {D : Addr} {Qd : Hp → Prop} (Pv : Nat → Hp → Prop) (h0 : Pv 0 (upd H1 D (.lst []))) (hG : ∀ i H, i ≤ n → Pv i H → G H)
    (σ0 : L2.St) (eσ : wipe σ vs = σ0) (hs : ∀ i x H H', i < n → Pv i H → Y i H x H' → g x σ0 H' fun σ2 H2 => wipe σ2 vs = σ0 ∧ tt σ2 H2 fun b H3 => if b = true then wi1 σ2 H3 fun J1 H4 => ∃ W1 : Nat → Nat → Hp → Prop, (∃ m, W1 0 m H4) ∧ ∀ j k H, W1 j k H →
      (J1.stop j H ∧ Pv (i + 1) H) ∨ (J1.go j H ∧ ∃ Nx1 : Hp → Prop, (∀ H', Nx1 H' → ∃ k', k' < k ∧ W1 (j + 1) k' H') ∧ ∀ x H', J1.yld j H x H' → g1 x (wipe σ2 vs1) H' fun σ3 H5 => wipe σ3 vs1 = wipe σ2 vs1 ∧ tt1 σ3 H5 fun b H6 =>
        if b = true then te σ3 H6 fun y H7 => ∃ acc, H7 D = some (.lst acc) ∧ acc.length < sizeLine ∧ Nx1 (upd H7 D (.lst (acc ++ [y]))) else Nx1 H6)
    else Pv (i + 1) H3) (hd : ∀ H, Pv n H → Qd H) :
    ∃ W : Nat → Nat → Hp → Prop, (∃ m, W 0 m (upd H1 D (.lst []))) ∧ ∀ i m H, W i m H →
  (J.stop i H ∧ Qd H) ∨ (J.go i H ∧ ∃ Nx : Hp → Prop, (∀ H', Nx H' → ∃ m', m' < m ∧ W (i + 1) m' H') ∧ ∀ x H', J.yld i H x H' → g x (wipe σ vs) H' fun σ2 H2 => wipe σ2 vs = wipe σ vs ∧ tt σ2 H2 fun b H3 =>
    if b = true then wi1 σ2 H3 fun J1 H4 => ∃ W1 : Nat → Nat → Hp → Prop, (∃ m, W1 0 m H4) ∧ ∀ j k H, W1 j k H →
      (J1.stop j H ∧ Nx H) ∨ (J1.go j H ∧ ∃ Nx1 : Hp → Prop, (∀ H', Nx1 H' → ∃ k', k' < k ∧ W1 (j + 1) k' H') ∧ ∀ x H', J1.yld j H x H' → g1 x (wipe σ2 vs1) H' fun σ3 H5 => wipe σ3 vs1 = wipe σ2 vs1 ∧ tt1 σ3 H5 fun b H6 =>
        if b = true then te σ3 H6 fun y H7 => ∃ acc, H7 D = some (.lst acc) ∧ acc.length < sizeLine ∧ Nx1 (upd H7 D (.lst (acc ++ [y]))) else Nx1 H6)
    else Nx H3) := by
  subst eσ
  exact lc2_it w Pv h0 hG hs hd
theorem lcin_itE (w : Walk J1 n G Y) {g1 : TG} {tt1 : TT} {te : TE} {vs1 : List Nat} {σ2 : L2.St} {H4 : Hp} {D : Addr} {Qd : Hp → Prop} (Pv : Nat → Hp → Prop) (h0 : Pv 0 H4) (hG : ∀ i H, i ≤ n → Pv i H → G H)
    (σ0 : L2.St) (eσ : wipe σ2 vs1 = σ0) (hs : ∀ j x H H', j < n → Pv j H → Y j H x H' → g1 x σ0 H' fun σ3 H5 => wipe σ3 vs1 = σ0 ∧ tt1 σ3 H5 fun b H6 =>
        if b = true then te σ3 H6 fun y H7 => ∃ acc, H7 D = some (.lst acc) ∧ acc.length < sizeLine ∧ Pv (j + 1) (upd H7 D (.lst (acc ++ [y]))) else Pv (j + 1) H6) (hd : ∀ H, Pv n H → Qd H) :
    ∃ W1 : Nat → Nat → Hp → Prop, (∃ m, W1 0 m H4) ∧ ∀ j k H, W1 j k H →
      (J1.stop j H ∧ Qd H) ∨ (J1.go j H ∧ ∃ Nx1 : Hp → Prop, (∀ H', Nx1 H' → ∃ k', k' < k ∧ W1 (j + 1) k' H') ∧ ∀ x H', J1.yld j H x H' → g1 x (wipe σ2 vs1) H' fun σ3 H5 => wipe σ3 vs1 = wipe σ2 vs1 ∧ tt1 σ3 H5 fun b H6 =>
        if b = true then te σ3 H6 fun y H7 => ∃ acc, H7 D = some (.lst acc) ∧ acc.length < sizeLine ∧ Nx1 (upd H7 D (.lst (acc ++ [y]))) else Nx1 H6) := by
  subst eσ
  exact lcin_it w Pv h0 hG hs hd
end
/-! ### the deck's own worths, a dict of the module -/
structure OW (K : PySem.W.Frag) (w : World) : Prop where
  at_ : ∀ z ∈ TRS, ∃ v, KDct K w (He.ga K "OWN_WORTHS") z v ∧ ∀ H, Dp K H v (ownW z)
def relW : PyData → Value → Bool
  | .int i, .int j _ => decide (i = j)
  | .str a, .str b _ => decide (a = b)
  | _, _ => false
def ownB (K : PySem.W.Frag) : Bool := TRS.all fun z => match PySem.W.nsIn K (He.ga K "OWN_WORTHS") z with
  | some (some u) => relW (ownW z) u
  | _ => false
theorem ownB_ok {K : PySem.W.Frag} {w : World} (h : ownB K = true) (d : ∃ es n, L2.KDict K w (He.ga K "OWN_WORTHS") es n) : OW K w := by
  refine ⟨fun z mz => ?_⟩
  have h1 := List.all_eq_true.mp h z mz
  obtain ⟨es, n, hd⟩ := d
  split at h1
  · rename_i u e
    cases eo : ownW z with
    | int i =>
      rw [eo] at h1
      cases u with
      | int j t =>
        obtain rfl : i = j := of_decide_eq_true h1
        exact ⟨.int i, ⟨es, n, _, hd.at_, hd.lit, e, ⟨t, rfl⟩⟩, fun H => .int i⟩
      | _ => cases h1
    | str s =>
      rw [eo] at h1
      cases u with
      | str j t =>
        obtain rfl : s = j := of_decide_eq_true h1
        exact ⟨.str s, ⟨es, n, _, hd.at_, hd.lit, e, ⟨t, rfl⟩⟩, fun H => .str s⟩
      | _ => cases h1
    | _ =>
      rw [eo] at h1
      cases h1
  · cases h1
/-! ### promises -/
section
variable (K : PySem.W.Frag) (P' : Addr)
def spTrait : Sp := fun vs H Q _ => ∃ v, vs = [v] ∧ Th H v ∧ Q (.bl (traitV v)) H
def spOneOf : Sp := fun vs H Q _ => ∃ (v : V) (a : Addr) (xs : List V), vs = [v, .ref a] ∧ Th H v ∧ SqT K H a xs ∧ xs.all flatV = true ∧ Q (.bl (isStr v && inV v xs)) H
def spMOfR : Sp := fun vs H Q E => ∃ (v n : V) (ms : List MaM), vs = [v, n] ∧ Dp K H v (.tuple (ms.map MaM.d)) ∧ OkMs ms ∧ Ok1 H n ∧ TabG H P' ∧
  (∀ (m : MaM) (u : V) (H' : Hp), fndV ms n = some m → Tk P' H H' → Dp K H' u m.d → Q u H') ∧ (fndV ms n = none → ∀ H', Tk P' H H' → E (.ref (He.ga K "NoMaster")) none H')
def spMsR (R : List MaM → Str → Hp → Addr → Prop) : Sp := fun vs H Q E => ∃ (v n : V) (ms : List MaM), vs = [v, n] ∧ Dp K H v (.tuple (ms.map MaM.d)) ∧ OkMs ms ∧ Ok1 H n ∧ TabG H P' ∧
  (∀ m, fndV ms n = some m → ∀ (D : Addr) (H' : Hp), Tk P' H H' → H D = none → R ms m.name H' D → Q (.ref D) H') ∧ (fndV ms n = none → ∀ H', Tk P' H H' → E (.ref (He.ga K "NoMaster")) none H')
def spSaid : Sp := fun vs H Q E => ∃ (v n y : V) (ms : List MaM), vs = [v, n, y] ∧ Dp K H v (.tuple (ms.map MaM.d)) ∧ OkMs ms ∧ Ok1 H n ∧ Ok1 H y ∧ TabG H P' ∧
  (fndV ms n = none → ∀ H', Tk P' H H' → E (.ref (He.ga K "NoMaster")) none H') ∧ (∀ m, fndV ms n = some m → saidV (chn ms m.name) y = [] → ∀ H', Tk P' H H' → E (.ref (He.ga K "NoPlace")) none H') ∧
  (∀ m, fndV ms n = some m → saidV (chn ms m.name) y ≠ [] → ∀ (D : Addr) (H' : Hp) (xs : List V), Tk P' H H' → H D = none → H' D = some (.lst xs) → DpAll K H' xs ((saidV (chn ms m.name) y).map sd) → Q (.ref D) H')
def spWSaid : Sp := fun vs H Q _ => ∃ (D : Addr) (t : Str) (xs : List V) (l : List (Str × PlM)), vs = [.ref D, .str t] ∧ t ∈ TRS ∧ H D = some (.lst xs) ∧ DpAll K H xs (l.map sd) ∧ ∀ (u : V) (H' : Hp), Same H H' → Dp K H' u (resW l t) → Q u H'
def spWBy : Sp := fun vs H Q E => ∃ (v n y t : V) (ms : List MaM), vs = [v, n, y, t] ∧ Dp K H v (.tuple (ms.map MaM.d)) ∧ OkMs ms ∧ Ok1 H n ∧ Ok1 H y ∧ Ok1 H t ∧ TabG H P' ∧
  (fndV ms n = none → ∀ H', Tk P' H H' → E (.ref (He.ga K "NoMaster")) none H') ∧ (∀ m, fndV ms n = some m → saidV (chn ms m.name) y = [] → ∀ H', Tk P' H H' → E (.ref (He.ga K "NoPlace")) none H') ∧
  (∀ m, fndV ms n = some m → saidV (chn ms m.name) y ≠ [] → traitV t = false → ∀ H', Tk P' H H' → E (.ref (He.ga K "NoTrait")) none H') ∧
  (∀ m z, fndV ms n = some m → saidV (chn ms m.name) y ≠ [] → t = .str z → z ∈ TRS → ∀ (u : V) (H' : Hp), Tk P' H H' → Dp K H' u (resW (saidV (chn ms m.name) y) z) → Q u H')
def spTBy : Sp := fun vs H Q E => ∃ (v n y : V) (ms : List MaM), vs = [v, n, y] ∧ Dp K H v (.tuple (ms.map MaM.d)) ∧ OkMs ms ∧ Ok1 H n ∧ Ok1 H y ∧ TabG H P' ∧
  (fndV ms n = none → ∀ H', Tk P' H H' → E (.ref (He.ga K "NoMaster")) none H') ∧ (∀ m, fndV ms n = some m → saidV (chn ms m.name) y = [] → ∀ H', Tk P' H H' → E (.ref (He.ga K "NoPlace")) none H') ∧
  (∀ m, fndV ms n = some m → saidV (chn ms m.name) y ≠ [] → ∀ (u : V) (H' : Hp), Tk P' H H' → Dp K H' u (resT (saidV (chn ms m.name) y)) → Q u H')
end
end Gk

set_option Elab.async false
set_option linter.all false
set_option maxRecDepth 100000
set_option maxHeartbeats 2000000
/-! Signs: words between blanks, rows of so many signs. -/
namespace Gs
open PySem PySem.Spec PyProof.Rows L2 GxR Gx
abbrev W := List Nat
def spl : W → List W
  | [] => [[]]
  | c :: r => match spl r with
    | [] => [[]]
    | p :: ps => if c = 32 then [] :: p :: ps else (c :: p) :: ps
def jn : List W → W
  | [] => []
  | [x] => x
  | x :: y :: r => x ++ 32 :: jn (y :: r)
theorem spl_ne (x : W) : ∃ p ps, spl x = p :: ps := by
  cases x with
  | nil => exact ⟨_, _, rfl⟩
  | cons c r =>
    unfold spl
    split
    · exact ⟨_, _, rfl⟩
    · split <;> exact ⟨_, _, rfl⟩
theorem spl_cons {c : Nat} {r p : W} {ps : List W} (h : spl r = p :: ps) : spl (c :: r) = if c = 32 then [] :: p :: ps else (c :: p) :: ps := by
  rw [spl, h]
theorem spl_app {p : W} (hp : 32 ∉ p) {x q : W} {qs : List W} (h : spl x = q :: qs) : spl (p ++ x) = (p ++ q) :: qs := by
  induction p with
  | nil => exact h
  | cons c r ih =>
    have h1 : c ≠ 32 := fun e => hp (by rw [e]; exact List.mem_cons_self)
    have h2 : 32 ∉ r := fun m => hp (List.mem_cons_of_mem _ m)
    rw [List.cons_append, spl_cons (ih h2), if_neg h1] <;> rfl
theorem spl_jn : ∀ {ps : List W}, ps ≠ [] → (∀ p ∈ ps, 32 ∉ p) → spl (jn ps) = ps
  | [], h, _ => absurd rfl h
  | [x], _, h => by
    have h1 := spl_app (h x List.mem_cons_self) (x := []) rfl
    rw [List.append_nil] at h1
    exact h1
  | x :: y :: r, _, h => by
    have ih := spl_jn (ps := y :: r) (fun e => nomatch e) fun p hp => h p (List.mem_cons_of_mem _ hp)
    have h1 : spl (32 :: jn (y :: r)) = [] :: y :: r := by rw [spl_cons ih, if_pos rfl]
    show spl (x ++ 32 :: jn (y :: r)) = _
    rw [spl_app (h x List.mem_cons_self) h1, List.append_nil]
theorem jn_spl : ∀ x : W, jn (spl x) = x
  | [] => rfl
  | c :: r => by
    have ih := jn_spl r
    obtain ⟨p, ps, e⟩ := spl_ne r
    rw [e] at ih
    rw [spl_cons e]
    by_cases h : c = 32
    · rw [if_pos h, h]
      show [] ++ 32 :: jn (p :: ps) = _
      rw [ih] <;> rfl
    · rw [if_neg h]
      cases ps with
      | nil =>
        show c :: p = _
        rw [show p = r from ih]
      | cons q qs =>
        show c :: (p ++ 32 :: jn (q :: qs)) = _
        rw [show p ++ 32 :: jn (q :: qs) = r from ih]
theorem spl_free : ∀ x : W, ∀ p ∈ spl x, 32 ∉ p
  | [] => fun p hp => by
    rw [show p = [] from List.mem_singleton.mp hp]
    exact fun h => nomatch h
  | c :: r => fun p hp => by
    have ih := spl_free r
    obtain ⟨q, qs, e⟩ := spl_ne r
    rw [e] at ih
    rw [spl_cons e] at hp
    by_cases h : c = 32
    · rw [if_pos h] at hp
      rcases List.mem_cons.mp hp with rfl | hp
      · exact fun h => nomatch h
      · exact ih p hp
    · rw [if_neg h] at hp
      rcases List.mem_cons.mp hp with rfl | hp
      · intro m
        rcases List.mem_cons.mp m with m | m
        · exact h m.symm
        · exact ih q List.mem_cons_self m
      · exact ih p (List.mem_cons_of_mem _ hp)
theorem spl_flat : ∀ x : W, (spl x).flatten = x.filter (· ≠ 32)
  | [] => rfl
  | c :: r => by
    have ih := spl_flat r
    obtain ⟨p, ps, e⟩ := spl_ne r
    rw [e, List.flatten_cons] at ih
    rw [spl_cons e]
    by_cases h : c = 32
    · rw [if_pos h, List.flatten_cons, List.flatten_cons, List.nil_append, ih, List.filter_cons_of_neg (by simp [h])]
    · rw [if_neg h, List.flatten_cons, List.filter_cons_of_pos (by simp [h]), ← ih] <;> rfl
/-- the words -/
def wd (x : W) : List W := (spl x).filter (· ≠ [])
theorem wd_mem {x p : W} (h : p ∈ wd x) : p ≠ [] ∧ 32 ∉ p := by
  obtain ⟨h1, h2⟩ := List.mem_filter.mp h
  exact ⟨of_decide_eq_true h2, spl_free x p h1⟩
theorem flat_ne : ∀ l : List W, (l.filter (· ≠ [])).flatten = l.flatten
  | [] => rfl
  | x :: r => by
    have ih := flat_ne r
    cases x with
    | nil => rw [List.filter_cons_of_neg (by simp), ih] <;> rfl
    | cons c y => rw [List.filter_cons_of_pos (by simp), List.flatten_cons, List.flatten_cons, ih]
theorem wd_flat (x : W) : (wd x).flatten = x.filter (· ≠ 32) := by
  unfold wd
  rw [flat_ne, spl_flat]
/-- a row of words -/
def Gd (r : W) : Prop := ∃ gs : List W, gs ≠ [] ∧ (∀ g ∈ gs, g ≠ [] ∧ 32 ∉ g) ∧ r = jn gs
theorem Gd.spl {r : W} {gs : List W} (h : gs ≠ []) (hg : ∀ g ∈ gs, g ≠ [] ∧ 32 ∉ g) (e : r = jn gs) : Gs.spl r = gs ∧ wd r = gs := by
  have h1 : Gs.spl r = gs := by rw [e]; exact spl_jn h fun p hp => (hg p hp).2
  refine ⟨h1, ?_⟩
  unfold wd
  rw [h1]
  exact List.filter_eq_self.mpr fun g hm => decide_eq_true (hg g hm).1
theorem Gd.jn {r : W} (h : Gd r) : Gs.jn (wd r) = r := by
  obtain ⟨gs, h1, h2, e⟩ := h
  rw [(Gd.spl h1 h2 e).2, e]
theorem Gd.ne {r : W} (h : Gd r) : r ≠ [] := by
  obtain ⟨gs, h1, h2, e⟩ := h
  cases gs with
  | nil => exact absurd rfl h1
  | cons g t =>
    have hg := (h2 g List.mem_cons_self).1
    rw [e]
    cases t with
    | nil => exact hg
    | cons a b =>
      intro q
      exact hg (List.append_eq_nil_iff.mp (show g ++ 32 :: Gs.jn (a :: b) = [] from q)).1
theorem Gd.one {x : W} (h1 : x ≠ []) (h2 : 32 ∉ x) : Gd x := ⟨[x], (fun e => nomatch e), (fun g hg => by rw [List.mem_singleton.mp hg]; exact ⟨h1, h2⟩), rfl⟩
theorem jn_snoc : ∀ {gs : List W} {x : W}, gs ≠ [] → jn (gs ++ [x]) = jn gs ++ 32 :: x
  | [], _, h => absurd rfl h
  | [g], x, _ => rfl
  | g :: a :: b, x, _ => by
    have ih := jn_snoc (gs := a :: b) (x := x) (fun e => nomatch e)
    show g ++ 32 :: jn ((a :: b) ++ [x]) = (g ++ 32 :: jn (a :: b)) ++ 32 :: x
    rw [ih, List.append_assoc] <;> rfl
theorem Gd.more {r x : W} (h : Gd r) (h1 : x ≠ []) (h2 : 32 ∉ x) : Gd (r ++ 32 :: x) ∧ (Gs.spl (r ++ 32 :: x)).headD [] = (Gs.spl r).headD [] := by
  obtain ⟨gs, g1, g2, e⟩ := h
  have hg : ∀ g ∈ gs ++ [x], g ≠ [] ∧ 32 ∉ g := fun g hm => by
    rcases List.mem_append.mp hm with hm | hm
    · exact g2 g hm
    · rw [List.mem_singleton.mp hm]
      exact ⟨h1, h2⟩
  have e2 : r ++ 32 :: x = Gs.jn (gs ++ [x]) := by rw [jn_snoc g1, e]
  have hne : gs ++ [x] ≠ [] := by simp
  refine ⟨⟨gs ++ [x], hne, hg, e2⟩, ?_⟩
  rw [(Gd.spl hne hg e2).1, (Gd.spl g1 g2 e).1]
  cases gs with
  | nil => exact absurd rfl g1
  | cons a b => rfl
theorem Gd.head_one {x : W} (h1 : x ≠ []) (h2 : 32 ∉ x) : (Gs.spl x).headD [] = x := by
  rw [(Gd.spl (r := x) (gs := [x]) (fun e => nomatch e) (fun g hg => by rw [List.mem_singleton.mp hg]; exact ⟨h1, h2⟩) rfl).1] <;> rfl
/-! ### a word that is too long -/
def chop (w : Nat) : Nat → W → List W × W
  | 0, x => ([], x)
  | n + 1, x => if w < x.length then (x.take w :: (chop w n (x.drop w)).1, (chop w n (x.drop w)).2) else ([], x)
structure Cut (w : Nat) (x : W) (c : List W × W) : Prop where
  full : ∀ r ∈ c.1, r.length = w
  rest : 1 ≤ c.2.length ∧ c.2.length ≤ w
  whole : c.1.flatten ++ c.2 = x
theorem chop_ok {w : Nat} (hw : 1 ≤ w) : ∀ {n : Nat} {x : W}, x.length ≤ n → x ≠ [] → Cut w x (chop w n x)
  | 0, x, h, hx => absurd (List.length_eq_zero_iff.mp (Nat.le_zero.mp h)) hx
  | n + 1, x, h, hx => by
    unfold chop
    by_cases hl : w < x.length
    · rw [if_pos hl]
      have ld : (x.drop w).length = x.length - w := List.length_drop
      have ih := chop_ok (w := w) hw (n := n) (x := x.drop w) (by omega) (fun e => by rw [e] at ld; simp at ld; omega)
      refine ⟨fun r hr => ?_, ih.rest, ?_⟩
      · rcases List.mem_cons.mp hr with rfl | hr
        · rw [List.length_take]
          omega
        · exact ih.full r hr
      · show (x.take w :: (chop w n (x.drop w)).1).flatten ++ (chop w n (x.drop w)).2 = x
        rw [List.flatten_cons, List.append_assoc, ih.whole, List.take_append_drop]
    · rw [if_neg hl]
      have : 1 ≤ x.length := List.length_pos_iff.mpr hx
      exact ⟨fun r hr => (nomatch hr), ⟨this, Nat.le_of_not_lt hl⟩, rfl⟩
theorem flat_len {w : Nat} : ∀ {l : List W}, (∀ r ∈ l, r.length = w) → l.flatten.length = l.length * w
  | [], _ => by simp
  | x :: r, h => by
    have ih := flat_len (w := w) (l := r) fun y hy => h y (List.mem_cons_of_mem _ hy)
    rw [List.flatten_cons, List.length_append, h x List.mem_cons_self, ih, List.length_cons, Nat.succ_mul]
    omega
theorem Cut.len {w : Nat} {x : W} {c : List W × W} (h : Cut w x c) : c.1.length * w + c.2.length = x.length := by
  have e := congrArg List.length h.whole
  rw [List.length_append, flat_len h.full] at e
  exact e
theorem Cut.free {w : Nat} {x : W} {c : List W × W} (h : Cut w x c) (f : 32 ∉ x) : (∀ r ∈ c.1, 32 ∉ r) ∧ 32 ∉ c.2 := by
  rw [← h.whole] at f
  refine ⟨fun r hr m => f (List.mem_append_left _ (List.mem_flatten.mpr ⟨r, hr, m⟩)), fun m => f (List.mem_append_right _ m)⟩
theorem Cut.short {w : Nat} {x : W} {c : List W × W} (h : Cut w x c) (hl : x.length ≤ w) (hw : 1 ≤ w) : c.1 = [] ∧ c.2 = x := by
  have e := h.len
  have h1 := h.rest.1
  cases hc : c.1 with
  | nil =>
    have e2 := h.whole
    rw [hc] at e2
    exact ⟨rfl, e2⟩
  | cons a b =>
    rw [hc, List.length_cons, Nat.succ_mul] at e
    omega
theorem Cut.mono {w : Nat} {x : W} {c d : List W × W} (h : Cut w x c) (k : Cut (w + 1) x d) : d.1.length < c.1.length ∨ (d.1.length = c.1.length ∧ d.2.length ≤ c.2.length) := by
  have e1 := h.len
  have e2 := k.len
  have r1 := h.rest
  have r2 := k.rest
  rcases Nat.lt_trichotomy d.1.length c.1.length with l | l | l
  · exact .inl l
  · refine .inr ⟨l, ?_⟩
    rw [l, Nat.mul_succ] at e2
    omega
  · exfalso
    have m := Nat.mul_le_mul_right (w + 1) (show c.1.length + 1 ≤ d.1.length from l)
    rw [Nat.succ_mul, Nat.mul_succ] at m
    omega
/-! ### rows -/
def stepR (w : Nat) (st : List W × W) (x : W) : List W × W :=
  if st.2 ≠ [] ∧ st.2.length + 1 + x.length ≤ w then (st.1, st.2 ++ 32 :: x)
  else ((if st.2 ≠ [] then st.1 ++ [st.2] else st.1) ++ (chop w x.length x).1, (chop w x.length x).2)
def rowsS (w : Nat) (ws : List W) : List W × W := ws.foldl (stepR w) ([], [])
def rowsL (w : Nat) (x : W) : List W := (rowsS w (wd x)).1 ++ [(rowsS w (wd x)).2]
/-- of two rows one behind the other: the first word of the other doesn't fit in the one -/
def Adj (w : Nat) (R : List W) : Prop := ∀ k r r', R[k]? = some r → R[k + 1]? = some r' → w < r.length + 1 + ((spl r').headD []).length
theorem Adj.snoc {w : Nat} {R : List W} {a b : W} (h : Adj w (R ++ [a])) (hb : w < a.length + 1 + ((spl b).headD []).length) : Adj w (R ++ [a] ++ [b]) := by
  intro k r r' h1 h2
  by_cases hk : k + 1 < (R ++ [a]).length
  · rw [List.getElem?_append_left hk] at h2
    rw [List.getElem?_append_left (by omega)] at h1
    exact h k r r' h1 h2
  · have hl : (R ++ [a]).length = R.length + 1 := by simp
    have hk2 : k + 1 = (R ++ [a]).length := by
      have := (List.getElem?_eq_some_iff.mp h2).1
      rw [List.length_append] at this
      simp at this
      omega
    have ek : k = R.length := by omega
    rw [hk2, List.getElem?_append_right (Nat.le_refl _), Nat.sub_self] at h2
    cases h2
    rw [List.getElem?_append_left (by omega), ek, List.getElem?_append_right (Nat.le_refl _), Nat.sub_self] at h1
    cases h1
    exact hb
theorem Adj.one {w : Nat} {a : W} : Adj w [a] := fun k r r' _ h2 => by simp at h2
theorem Adj.last {w : Nat} {R : List W} {a b : W} (h : Adj w (R ++ [a])) (e : (spl b).headD [] = (spl a).headD []) : Adj w (R ++ [b]) := by
  intro k r r' h1 h2
  have hk2 := (List.getElem?_eq_some_iff.mp h2).1
  rw [List.length_append, List.length_singleton] at hk2
  by_cases hk : k + 1 < R.length
  · rw [List.getElem?_append_left hk] at h2
    rw [List.getElem?_append_left (by omega)] at h1
    refine h k r r' ?_ ?_
    · rw [List.getElem?_append_left (by omega)]; exact h1
    · rw [List.getElem?_append_left hk]; exact h2
  · have ek : k + 1 = R.length := by omega
    rw [List.getElem?_append_left (by omega)] at h1
    rw [ek, List.getElem?_append_right (Nat.le_refl _), Nat.sub_self] at h2
    cases h2
    rw [e]
    refine h k r a ?_ ?_
    · rw [List.getElem?_append_left (by omega)]; exact h1
    · rw [ek, List.getElem?_append_right (Nat.le_refl _), Nat.sub_self] <;> rfl
theorem Adj.full {w : Nat} : ∀ {l : List W} {R : List W} {a b : W}, Adj w (R ++ [a]) → (∀ r ∈ l, r.length = w) → w < a.length + 1 + ((spl ((l ++ [b]).headD [])).headD []).length → Adj w (R ++ [a] ++ l ++ [b])
  | [], R, a, b, h, _, hb => by
    rw [List.append_nil]
    exact h.snoc hb
  | x :: l, R, a, b, h, hl, hb => by
    have h1 : Adj w (R ++ [a] ++ [x]) := h.snoc hb
    have ih := Adj.full (l := l) (R := R ++ [a]) (a := x) (b := b) h1 (fun r hr => hl r (List.mem_cons_of_mem _ hr)) (by rw [hl x List.mem_cons_self]; omega)
    rw [show R ++ [a] ++ x :: l ++ [b] = R ++ [a] ++ [x] ++ l ++ [b] by simp]
    exact ih
theorem Adj.full0 {w : Nat} {l : List W} {b : W} (hl : ∀ r ∈ l, r.length = w) : Adj w (l ++ [b]) := by
  cases l with
  | nil => exact Adj.one
  | cons x l =>
    have h := Adj.full (l := l) (R := []) (a := x) (b := b) Adj.one (fun r hr => hl r (List.mem_cons_of_mem _ hr)) (by rw [hl x List.mem_cons_self]; omega)
    exact h
structure RI (w : Nat) (ws : List W) (st : List W × W) : Prop where
  start : st.2 = [] → st.1 = [] ∧ ws = []
  good : ∀ r ∈ st.1, Gd r ∧ r.length ≤ w
  last : st.2 = [] ∨ (Gd st.2 ∧ st.2.length ≤ w)
  adj : Adj w (st.1 ++ [st.2])
  flat : (st.1 ++ [st.2]).flatten.filter (· ≠ 32) = ws.flatten
theorem free_filter {x : W} (h : 32 ∉ x) : x.filter (· ≠ 32) = x := List.filter_eq_self.mpr fun c hc => decide_eq_true fun e => h (by rw [← e]; exact hc)
theorem RI.step {w : Nat} (hw : 1 ≤ w) {ws : List W} {st : List W × W} (h : RI w ws st) {x : W} (h1 : x ≠ []) (h2 : 32 ∉ x) : RI w (ws ++ [x]) (stepR w st x) := by
  unfold stepR
  by_cases c : st.2 ≠ [] ∧ st.2.length + 1 + x.length ≤ w
  · rw [if_pos c]
    have hg := (h.last.resolve_left c.1).1
    obtain ⟨g1, g2⟩ := hg.more h1 h2
    refine ⟨fun e => absurd e (by simp), h.good, .inr ⟨g1, ?_⟩, h.adj.last g2, ?_⟩
    · show (st.2 ++ 32 :: x).length ≤ w
      rw [List.length_append, List.length_cons]
      omega
    · have e := h.flat
      rw [List.flatten_append, List.filter_append, List.flatten_singleton] at e
      show (st.1 ++ [st.2 ++ 32 :: x]).flatten.filter (· ≠ 32) = _
      rw [List.flatten_append, List.filter_append, List.flatten_singleton, List.filter_append, ← List.append_assoc, e, List.filter_cons_of_neg (by simp), free_filter h2, List.flatten_append, List.flatten_singleton]
  · rw [if_neg c]
    have k := chop_ok hw (n := x.length) (Nat.le_refl _) h1
    obtain ⟨f1, f2⟩ := k.free h2
    have k2 := k.rest
    have k1 := k.full
    have k0 := k.whole
    have hsh := fun hl => k.short hl hw
    revert k1 k2 k0 f1 f2 hsh
    generalize chop w x.length x = cc
    intro f1 f2 k2 k1 k0 hsh
    have ne2 : cc.2 ≠ [] := fun e => by rw [e] at k2; simp at k2
    have gd2 : Gd cc.2 := Gd.one ne2 f2
    have gd1 : ∀ r ∈ cc.1, Gd r := fun r hr => Gd.one (fun e => by have := k1 r hr; rw [e] at this; simp at this; omega) (f1 r hr)
    have flt : (cc.1 ++ [cc.2]).flatten.filter (· ≠ 32) = x := by
      rw [List.flatten_append, List.flatten_singleton, k0, free_filter h2]
    refine ⟨fun e => absurd e ne2, fun r hr => ?_, .inr ⟨gd2, k2.2⟩, ?_, ?_⟩
    · rcases List.mem_append.mp hr with hr | hr
      · by_cases e : st.2 = []
        · rw [if_neg (fun q => q e)] at hr
          exact h.good r hr
        · rw [if_pos e] at hr
          rcases List.mem_append.mp hr with hr | hr
          · exact h.good r hr
          · rw [List.mem_singleton.mp hr]
            exact h.last.resolve_left e
      · exact ⟨gd1 r hr, Nat.le_of_eq (k1 r hr)⟩
    · by_cases e : st.2 = []
      · rw [if_neg (fun q => q e), (h.start e).1, List.nil_append]
        exact Adj.full0 k1
      · rw [if_pos e]
        refine Adj.full h.adj k1 ?_
        have c' : ¬ st.2.length + 1 + x.length ≤ w := fun q => c ⟨e, q⟩
        cases hc : cc.1 with
        | nil =>
          show w < st.2.length + 1 + ((spl cc.2).headD []).length
          rw [Gd.head_one ne2 f2]
          have e3 := k0
          rw [hc] at e3
          rw [show cc.2 = x from e3]
          omega
        | cons a b =>
          show w < st.2.length + 1 + ((spl a).headD []).length
          have ha := gd1 a (by rw [hc]; exact List.mem_cons_self)
          rw [Gd.head_one ha.ne (f1 a (by rw [hc]; exact List.mem_cons_self)), k1 a (by rw [hc]; exact List.mem_cons_self)]
          omega
    · have e := h.flat
      by_cases e0 : st.2 = []
      · rw [if_neg (fun q => q e0), List.append_assoc, List.flatten_append, List.filter_append, flt, List.flatten_append, List.flatten_singleton]
        rw [e0, List.flatten_append, List.flatten_singleton, List.append_nil] at e
        rw [e]
      · rw [if_pos e0, List.append_assoc, List.flatten_append, List.filter_append, flt, e, List.flatten_append, List.flatten_singleton]
theorem RI.fold {w : Nat} (hw : 1 ≤ w) : ∀ {us ws : List W} {st : List W × W}, RI w ws st → (∀ x ∈ us, x ≠ [] ∧ 32 ∉ x) → RI w (ws ++ us) (us.foldl (stepR w) st)
  | [], ws, st, h, _ => by rw [List.append_nil]; exact h
  | x :: us, ws, st, h, hu => by
    obtain ⟨h1, h2⟩ := hu x List.mem_cons_self
    have ih := RI.fold hw (us := us) (h.step hw h1 h2) fun y hy => hu y (List.mem_cons_of_mem _ hy)
    rw [List.append_assoc] at ih
    exact ih
theorem RI.zero {w : Nat} : RI w [] ([], []) := ⟨fun _ => ⟨rfl, rfl⟩, fun r hr => (nomatch hr), .inl rfl, Adj.one, rfl⟩
theorem rows_ri {w : Nat} (hw : 1 ≤ w) (x : W) : RI w (wd x) (rowsS w (wd x)) := by
  have h := RI.fold hw (us := wd x) RI.zero fun y hy => wd_mem hy
  rw [List.nil_append] at h
  exact h
/-- what is told of the rows of a line -/
structure RowsOk (w : Nat) (x : W) (R : List W) : Prop where
  some : R ≠ []
  fits : ∀ r ∈ R, r.length ≤ w
  glued : ∀ r ∈ R, jn (wd r) = r
  empty : ∀ r ∈ R, r = [] → R.length = 1
  adj : Adj w R
  flat : R.flatten.filter (· ≠ 32) = x.filter (· ≠ 32)
theorem rows_ok {w : Nat} (hw : 1 ≤ w) (x : W) : RowsOk w x (rowsL w x) := by
  have h := rows_ri hw x
  unfold rowsL
  revert h
  generalize rowsS w (wd x) = st
  intro h
  refine ⟨by simp, fun r hr => ?_, fun r hr => ?_, fun r hr e => ?_, h.adj, ?_⟩
  · rcases List.mem_append.mp hr with hr | hr
    · exact (h.good r hr).2
    · rw [List.mem_singleton.mp hr]
      rcases h.last with e | e
      · rw [e]; simp
      · exact e.2
  · rcases List.mem_append.mp hr with hr | hr
    · exact (h.good r hr).1.jn
    · rw [List.mem_singleton.mp hr]
      rcases h.last with e | e
      · rw [e] <;> rfl
      · exact e.1.jn
  · rcases List.mem_append.mp hr with hr | hr
    · exact absurd e (h.good r hr).1.ne
    · rw [List.mem_singleton.mp hr] at e
      rw [(h.start e).1] <;> rfl
  · rw [h.flat, wd_flat]
/-! ### one sign more in a row -/
structure Less (st st' : List W × W) : Prop where
  le : st'.1.length < st.1.length ∨ (st'.1.length = st.1.length ∧ st'.2.length ≤ st.2.length)
  emp : st.2 = [] ↔ st'.2 = []
  zero : st.2 = [] → st.1.length = st'.1.length
theorem Less.step {w : Nat} (hw : 1 ≤ w) {st st' : List W × W} (h : Less st st') {x : W} (h1 : x ≠ []) : Less (stepR w st x) (stepR (w + 1) st' x) := by
  have k := chop_ok hw (n := x.length) (Nat.le_refl _) h1
  have k' := chop_ok (w := w + 1) (by omega) (n := x.length) (Nat.le_refl _) h1
  have m := k.mono k'
  have s' := fun hl => k'.short hl (by omega)
  have e1 : (chop w x.length x).2 ≠ [] := fun e => by have := k.rest; rw [e] at this; simp at this
  have e2 : (chop (w + 1) x.length x).2 ≠ [] := fun e => by have := k'.rest; rw [e] at this; simp at this
  have lx : 1 ≤ x.length := List.length_pos_iff.mpr h1
  unfold stepR
  revert m s' e1 e2
  generalize chop w x.length x = c
  generalize chop (w + 1) x.length x = c'
  intro m s' e1 e2
  by_cases a : st.2 = []
  · have a' := h.emp.mp a
    have z := h.zero a
    rw [if_neg (show ¬ (st.2 ≠ [] ∧ st.2.length + 1 + x.length ≤ w) from fun q => q.1 a), if_neg (show ¬ (st'.2 ≠ [] ∧ st'.2.length + 1 + x.length ≤ w + 1) from fun q => q.1 a'), if_neg (show ¬ st.2 ≠ [] from fun q => q a), if_neg (show ¬ st'.2 ≠ [] from fun q => q a')]
    refine ⟨?_, ⟨fun e => absurd e e1, fun e => absurd e e2⟩, fun e => absurd e e1⟩
    show (st'.1 ++ c'.1).length < (st.1 ++ c.1).length ∨ (st'.1 ++ c'.1).length = (st.1 ++ c.1).length ∧ c'.2.length ≤ c.2.length
    rw [List.length_append, List.length_append]
    omega
  · have a' : ¬ st'.2 = [] := fun e => a (h.emp.mpr e)
    have hl := h.le
    by_cases b : st.2.length + 1 + x.length ≤ w
    · rw [if_pos ⟨a, b⟩]
      by_cases b' : st'.2.length + 1 + x.length ≤ w + 1
      · rw [if_pos ⟨a', b'⟩]
        refine ⟨?_, ⟨fun e => absurd e (by simp), fun e => absurd e (by simp)⟩, fun e => absurd e (by simp)⟩
        show st'.1.length < st.1.length ∨ st'.1.length = st.1.length ∧ (st'.2 ++ 32 :: x).length ≤ (st.2 ++ 32 :: x).length
        rw [List.length_append, List.length_append]
        omega
      · rw [if_neg (fun q => b' q.2), if_pos a']
        obtain ⟨s1, s2⟩ := s' (by omega)
        refine ⟨?_, ⟨fun e => absurd e (by simp), fun e => absurd e e2⟩, fun e => absurd e (by simp)⟩
        show (st'.1 ++ [st'.2] ++ c'.1).length < st.1.length ∨ (st'.1 ++ [st'.2] ++ c'.1).length = st.1.length ∧ c'.2.length ≤ (st.2 ++ 32 :: x).length
        rw [s1, s2, List.append_nil, List.length_append, List.length_append, List.length_singleton, List.length_cons]
        omega
    · rw [if_neg (fun q => b q.2), if_pos a]
      by_cases b' : st'.2.length + 1 + x.length ≤ w + 1
      · rw [if_pos ⟨a', b'⟩]
        refine ⟨?_, ⟨fun e => absurd e e1, fun e => absurd e (by simp)⟩, fun e => absurd e e1⟩
        show st'.1.length < (st.1 ++ [st.2] ++ c.1).length ∨ st'.1.length = (st.1 ++ [st.2] ++ c.1).length ∧ _
        rw [List.length_append, List.length_append, List.length_singleton]
        omega
      · rw [if_neg (fun q => b' q.2), if_pos a']
        refine ⟨?_, ⟨fun e => absurd e e1, fun e => absurd e e2⟩, fun e => absurd e e1⟩
        show (st'.1 ++ [st'.2] ++ c'.1).length < (st.1 ++ [st.2] ++ c.1).length ∨ (st'.1 ++ [st'.2] ++ c'.1).length = (st.1 ++ [st.2] ++ c.1).length ∧ c'.2.length ≤ c.2.length
        rw [List.length_append, List.length_append, List.length_append, List.length_append, List.length_singleton, List.length_singleton]
        omega
theorem Less.fold {w : Nat} (hw : 1 ≤ w) : ∀ {us : List W} {st st' : List W × W}, Less st st' → (∀ x ∈ us, x ≠ []) → Less (us.foldl (stepR w) st) (us.foldl (stepR (w + 1)) st')
  | [], _, _, h, _ => h
  | x :: us, _, _, h, hu => Less.fold hw (us := us) (h.step hw (hu x List.mem_cons_self)) fun y hy => hu y (List.mem_cons_of_mem _ hy)
theorem rows_less {w : Nat} (hw : 1 ≤ w) (x : W) : (rowsL (w + 1) x).length ≤ (rowsL w x).length := by
  have h := Less.fold hw (us := wd x) (st := ([], [])) (st' := ([], [])) ⟨.inr ⟨rfl, Nat.le_refl _⟩, Iff.rfl, fun _ => rfl⟩ fun y hy => (wd_mem hy).1
  have hl := h.le
  unfold rowsL rowsS
  rw [List.length_append, List.length_append, List.length_singleton, List.length_singleton]
  omega
end Gs

set_option Elab.async false
set_option linter.all false
set_option maxRecDepth 100000
set_option maxHeartbeats 2000000
/-! Texts as lists of signs; walks over lists or tuples. -/
namespace Gv
open PySem PySem.Spec PyProof.Rows L2 GxR Gx Gc Gk Gs
def cp (z : Str) : W := z.cps.toList
def mk (x : W) : Str := ⟨x.toArray⟩
theorem cp_mk (x : W) : cp (mk x) = x := by simp [cp, mk]
theorem mk_cp (z : Str) : mk (cp z) = z := by simp [cp, mk]
theorem cp_inj {a b : Str} (h : cp a = cp b) : a = b := by rw [← mk_cp a, ← mk_cp b, h]
theorem cp_app (a b : Str) : cp (a ++ b) = cp a ++ cp b := by
  show (a.cps ++ b.cps).toList = _
  rw [Array.toList_append] <;> rfl
theorem cp_len (z : Str) : (cp z).length = z.length := cps_len z
theorem mk_len (x : W) : (mk x).length = x.length := by rw [← cp_len, cp_mk]
theorem cp_empty : cp ("" : Str) = [] := by decide +kernel
theorem cp_blank : cp (" " : Str) = [32] := by decide +kernel
theorem mk_nil : mk [] = ("" : Str) := by decide +kernel
theorem blank_eq : (" " : Str) = ⟨#[32]⟩ := by decide +kernel
theorem mk_inj {a b : W} (h : mk a = mk b) : a = b := by rw [← cp_mk a, ← cp_mk b, h]
theorem cp_join : ∀ ps : List Str, cp (Str.join ⟨#[32]⟩ ps) = jn (ps.map cp)
  | [] => rfl
  | [x] => rfl
  | x :: y :: r => by
    have ih := cp_join (y :: r)
    show cp (x ++ ⟨#[32]⟩ ++ Str.join ⟨#[32]⟩ (y :: r)) = cp x ++ 32 :: jn ((y :: r).map cp)
    rw [cp_app, cp_app, ih, List.append_assoc] <;> rfl
theorem cp_join0 : ∀ ps : List Str, cp (Str.join ("" : Str) ps) = (ps.map cp).flatten
  | [] => rfl
  | [x] => by
    show cp x = [cp x].flatten
    simp
  | x :: y :: r => by
    have ih := cp_join0 (y :: r)
    show cp (x ++ ("" : Str) ++ Str.join ("" : Str) (y :: r)) = _
    rw [cp_app, cp_app, ih, cp_empty, List.append_nil] <;> rfl
theorem txt_join (a : Str) (ys : List Str) : Txt.join a ys = Str.join a ys := StrLaws.glued_eq_join a ys
theorem split_ne (x y : Str) : Txt.split x y ≠ [] := by
  unfold Txt.split
  split
  · simp
  · split
    · simp
    · rw [StrLaws.partsBetween_eq]
      obtain ⟨p, r, e⟩ := StrLaws.partsFrom_ne x y.length 0 (Builtin.Str.occurrences x y 0 x.length (x.length + 1))
      rw [e]
      simp
theorem split_cp (z : Str) : (Txt.split z (" " : Str)).map cp = spl (cp z) := by
  rw [blank_eq]
  have j := congrArg cp (StrLaws.join_split z ⟨#[32]⟩)
  rw [cp_join] at j
  rw [← j]
  refine (spl_jn ?_ fun p hp => ?_).symm
  · intro e
    exact split_ne _ _ (List.map_eq_nil_iff.mp e)
  · obtain ⟨q, hq, rfl⟩ := List.mem_map.mp hp
    exact StrLaws.split_free z 32 q hq
theorem split_mk (z : Str) : Txt.split z (" " : Str) = (spl (cp z)).map mk := by
  rw [← split_cp, List.map_map]
  have e : (mk ∘ cp) = id := funext fun x => mk_cp x
  rw [e, List.map_id]
theorem replace_cp (z : Str) : cp (Txt.replace z (" " : Str) ("" : Str)) = (cp z).filter (· ≠ 32) := by
  rw [blank_eq, StrLaws.replace_one, cp_join0, ← blank_eq, split_cp, spl_flat]
theorem cut_take (z : Str) (k : Nat) : cp (cutS z none (some (k : Int))) = (cp z).take k := by
  unfold cutS cp
  rw [HT.sIx_none, HT.sIx_nat, Nat.sub_zero, List.drop_zero, List.toList_toArray, List.take_eq_take_iff, cps_len]
  omega
theorem cut_drop (z : Str) (k : Nat) : cp (cutS z (some (k : Int)) none) = (cp z).drop k := by
  unfold cutS cp
  rw [HT.sIx_none, HT.sIx_nat, List.toList_toArray]
  have l : z.cps.toList.length = z.length := cps_len z
  by_cases h : k ≤ z.length
  · rw [Nat.min_eq_left h, List.take_of_length_le (by rw [List.length_drop]; omega)]
  · rw [Nat.min_eq_right (by omega), List.drop_eq_nil_of_le (by omega), List.drop_eq_nil_of_le (by omega), List.take_nil]
/-! ### how many rows -/
theorem Gd.sign {r : W} (h : Gs.Gd r) : 1 ≤ (r.filter (· ≠ 32)).length := by
  obtain ⟨gs, h1, h2, e⟩ := h
  rw [← wd_flat, (Gs.Gd.spl h1 h2 e).2]
  cases gs with
  | nil => exact absurd rfl h1
  | cons g t =>
    have := List.length_pos_iff.mpr (h2 g List.mem_cons_self).1
    rw [List.flatten_cons, List.length_append]
    omega
theorem good_len : ∀ {R : List W}, (∀ r ∈ R, Gs.Gd r) → R.length ≤ (R.flatten.filter (· ≠ 32)).length
  | [], _ => Nat.zero_le _
  | r :: t, h => by
    have ih := good_len (R := t) fun x hx => h x (List.mem_cons_of_mem _ hx)
    have h1 := Gd.sign (h r List.mem_cons_self)
    rw [List.flatten_cons, List.filter_append, List.length_append, List.length_cons]
    omega
theorem RI.few {w : Nat} {ws : List W} {st : List W × W} (h : RI w ws st) : st.1.length ≤ ws.flatten.length ∧ st.2.length ≤ w := by
  refine ⟨?_, ?_⟩
  · rw [← h.flat, List.flatten_append, List.filter_append, List.length_append]
    have := good_len fun r hr => (h.good r hr).1
    omega
  · rcases h.last with e | e
    · rw [e]; exact Nat.zero_le _
    · exact e.2
theorem wd_few (x : W) : (wd x).flatten.length ≤ x.length := by
  rw [wd_flat]
  exact List.length_filter_le _ _
theorem rows_few {w : Nat} (hw : 1 ≤ w) (x : W) : (rowsL w x).length ≤ x.length + 1 := by
  have h := (RI.few (rows_ri hw x)).1
  have h2 := wd_few x
  unfold rowsL
  rw [List.length_append, List.length_singleton]
  omega
theorem spl_few : ∀ x : W, (spl x).length ≤ x.length + 1
  | [] => Nat.le_refl _
  | c :: r => by
    have ih := spl_few r
    obtain ⟨p, ps, e⟩ := spl_ne r
    rw [e, List.length_cons] at ih
    rw [spl_cons e]
    split <;> simp only [List.length_cons] <;> omega
theorem spl_short : ∀ {x p : W}, p ∈ spl x → p.length ≤ x.length
  | [], p, h => by rw [show p = [] from List.mem_singleton.mp h]; exact Nat.le_refl _
  | c :: r, p, h => by
    obtain ⟨q, qs, e⟩ := spl_ne r
    rw [spl_cons e] at h
    by_cases hc : c = 32
    · rw [if_pos hc] at h
      rcases List.mem_cons.mp h with rfl | h
      · exact Nat.zero_le _
      · have := spl_short (x := r) (p := p) (by rw [e]; exact h)
        rw [List.length_cons]; omega
    · rw [if_neg hc] at h
      rcases List.mem_cons.mp h with rfl | h
      · have := spl_short (x := r) (p := q) (by rw [e]; exact List.mem_cons_self)
        rw [List.length_cons, List.length_cons]; omega
      · have := spl_short (x := r) (p := p) (by rw [e]; exact List.mem_cons_of_mem _ h)
        rw [List.length_cons]; omega
theorem wd_short {x p : W} (h : p ∈ wd x) : p.length ≤ x.length := spl_short (List.mem_filter.mp h).1
/-- texts of some signs -/
def tx (l : List W) : List V := (l.map mk).map V.str
theorem tx_app (a b : List W) : tx (a ++ b) = tx a ++ tx b := by
  unfold tx
  rw [List.map_append, List.map_append]
theorem tx_len (l : List W) : (tx l).length = l.length := by
  unfold tx
  rw [List.length_map, List.length_map]
theorem tx_get {l : List W} {i : Nat} {x : W} (h : l[i]? = some x) : (tx l)[i]? = some (.str (mk x)) := by
  unfold tx
  rw [List.getElem?_map, List.getElem?_map, h] <;> rfl
theorem tx_at {l : List W} {i : Nat} {v : V} (h : (tx l)[i]? = some v) : ∃ x, l[i]? = some x ∧ v = .str (mk x) := by
  unfold tx at h
  rw [List.getElem?_map, List.getElem?_map] at h
  cases e : l[i]? with
  | none => rw [e] at h; cases h
  | some x => rw [e] at h; cases h; exact ⟨x, rfl, rfl⟩
theorem tx_mk (zs : List Str) : tx (zs.map cp) = zs.map V.str := by
  have e : (zs.map cp).map mk = zs := by
    rw [List.map_map, show (mk ∘ cp) = id from funext fun x => mk_cp x, List.map_id]
  unfold tx
  rw [e]
/-! ### walks over lists or tuples -/
section
variable {X : Cx} {tg : Expr}
def iAny (K : PySem.W.Frag) (tl : TE) : TI := fun σ H R => tl σ H fun x H1 => ∃ a, x = .ref a ∧ (((∃ xs, SqL K H1 a xs) ∧ R (Itl K a) H1) ∨ ((∃ xs, SqT K H1 a xs) ∧ R (Itt K a) H1))
theorem pi_any {l : Expr} {i : Nat} (h1 : PI X tg l (iList X.K (tVar i))) (h2 : PI X tg l (iTup X.K (tVar i))) : PI X tg l (iAny X.K (tVar i)) := ⟨fun pins s σ H R I h => by
  obtain ⟨v, e, a, ea, q⟩ := h
  rcases q with q | q
  · exact h1.run pins s σ H R I ⟨v, e, a, ea, q.1, q.2⟩
  · exact h2.run pins s σ H R I ⟨v, e, a, ea, q.1, q.2⟩⟩
end
/-- a list or a tuple of texts, read -/
def SqA (K : PySem.W.Frag) (H : Hp) (a : Addr) (xs : List V) : Prop := SqL K H a xs ∨ SqT K H a xs
end Gv
namespace Gv
open PySem PySem.Spec PyProof.Rows L2 GxR Gx Gc Gk Gs
def tTru (K : PySem.W.Frag) (ta : TE) : TT := fun σ H Q => ta σ H fun x H' => ∃ k, TruV K x H' k ∧ Q k H'
theorem pt_truK {X : Cx} {a : Expr} {ta : TE} (K : PySem.W.Frag) (hK : X.K = K) (ha : PE X a ta) (he : ∀ whole, isTrue a X.env whole = (do let v ← whole; standAt a.pos; holding [v] (truthy v))) : PT X a (tTru K ta) := by
  subst hK
  exact pt_truth ha he
theorem small4000 {n : Nat} (h : n ≤ 4000) : n < sizeLine := by
  rw [sizeLine_eq]
  omega
theorem small1000' {n : Nat} (h : n ≤ 2000) : n < sizeLine := small4000 (by omega)
theorem fmore {α : Type} {p : α → Bool} {l : List α} {i : Nat} {x : α} (e : l[i]? = some x) : (l.take (i + 1)).filter p = if p x = true then (l.take i).filter p ++ [x] else (l.take i).filter p := by
  rw [Gd.take_more e, List.filter_append]
  by_cases h : p x = true
  · rw [if_pos h, List.filter_cons_of_pos h] <;> rfl
  · rw [if_neg h, List.filter_cons_of_neg h, List.filter_nil, List.append_nil]
/-- a row and the words in it: at most twice as many signs -/
theorem jn_len : ∀ gs : List W, (jn gs).length ≤ gs.flatten.length + gs.length
  | [] => Nat.le_refl _
  | [x] => by simp [jn]
  | x :: y :: r => by
    have ih := jn_len (y :: r)
    show (x ++ 32 :: jn (y :: r)).length ≤ (x :: y :: r).flatten.length + (x :: y :: r).length
    rw [List.length_append, List.length_cons, List.flatten_cons, List.length_append, List.length_cons]
    omega
theorem flat_ge : ∀ {gs : List W}, (∀ g ∈ gs, g ≠ []) → gs.length ≤ gs.flatten.length
  | [], _ => Nat.zero_le _
  | g :: r, h => by
    have ih := flat_ge (gs := r) fun x hx => h x (List.mem_cons_of_mem _ hx)
    have := List.length_pos_iff.mpr (h g List.mem_cons_self)
    rw [List.length_cons, List.flatten_cons, List.length_append]
    omega
theorem Gd.len2 {r : W} (h : Gs.Gd r) : r.length ≤ 2 * (r.filter (· ≠ 32)).length := by
  obtain ⟨gs, h1, h2, e⟩ := h
  have e1 : (r.filter (· ≠ 32)) = gs.flatten := by rw [← wd_flat, (Gs.Gd.spl h1 h2 e).2]
  have h3 := jn_len gs
  have h4 := flat_ge fun g hg => (h2 g hg).1
  rw [← e] at h3
  rw [e1]
  omega
theorem RI.lastLen {w : Nat} {ws : List W} {st : List W × W} (h : RI w ws st) : st.2.length ≤ 2 * ws.flatten.length := by
  rcases h.last with e | e
  · rw [e]; exact Nat.zero_le _
  · have h1 := Gd.len2 e.1
    have h2 := congrArg List.length h.flat
    rw [List.flatten_append, List.filter_append, List.length_append, List.flatten_singleton] at h2
    omega
end Gv
namespace Gv
open PySem PySem.Spec PyProof.Rows L2 GxR Gx Gc Gk Gs
/-! ### lists of texts as data -/
def strsD (l : List Str) : PyData := .list (l.map .str)
theorem dpAllV {K : PySem.W.Frag} {H : Hp} : ∀ (l : List Str), DpAll K H (l.map V.str) (l.map .str)
  | [] => .nil
  | z :: r => .cons (.str z) (dpAllV r)
theorem dpS {K : PySem.W.Frag} {H : Hp} {a : Addr} {l : List Str} (e : H a = some (.lst (l.map V.str))) : Dp K H (.ref a) (strsD l) := .lst (SqL.of e) (dpAllV l)
theorem dps_strs {K : PySem.W.Frag} {H : Hp} : ∀ {l : List Str} {rs : List V}, DpAll K H rs (l.map .str) → rs = l.map V.str
  | [], _, .nil => rfl
  | z :: r, _, .cons h t => by
    obtain rfl := Gd.dp_str h
    rw [dps_strs t] <;> rfl
theorem strs_lay : ∀ {l : List Str}, (∀ z ∈ l, ∀ c ∈ cp z, c < 128) → PyData.canLayAll0 (l.map PyData.str) = true
  | [], _ => rfl
  | z :: r, h => by
    have ih := strs_lay (l := r) fun x hx => h x (List.mem_cons_of_mem _ hx)
    show (PyData.canLay0 (.str z) && PyData.canLayAll0 (r.map PyData.str)) = true
    rw [ih, Bool.and_true]
    show z.cps.all (· < 0x110000) = true
    rw [← Array.all_toList]
    refine List.all_eq_true.mpr fun c hc => decide_eq_true ?_
    have := h z List.mem_cons_self c hc
    omega
theorem strs_depth : ∀ l : List Str, PyData.depthAll (l.map PyData.str) = 0
  | [] => rfl
  | z :: r => by
    show max (PyData.depth (.str z)) (PyData.depthAll (r.map PyData.str)) = 0
    rw [strs_depth r] <;> rfl
theorem strs_shaped {l : List Str} (h : ∀ z ∈ l, ∀ c ∈ cp z, c < 128) : SeqAt.shaped (strsD l) = true := by
  unfold SeqAt.shaped
  rw [show (strsD l).canLay0 = true from strs_lay h, Bool.true_and]
  refine decide_eq_true ?_
  show PyData.depthAll (l.map PyData.str) + 1 ≤ 64
  rw [strs_depth]
  decide
theorem strs_eqv {l : List Str} (h : ∀ z ∈ l, ∀ c ∈ cp z, c < 128) : PyData.eqv (strsD l) (strsD l) = true := SeqAt.eqv_refl _ (strs_lay h)
theorem row_signs {n : Nat} (hn : 1 ≤ n) {x r : W} (hr : r ∈ rowsL n x) (hx : ∀ c ∈ x, c < 128) : ∀ c ∈ r, c < 128 := fun c hc => by
  by_cases e : c = 32
  · rw [e]; decide
  · have h := (rows_ok hn x).flat
    have m : c ∈ (rowsL n x).flatten.filter (· ≠ 32) := List.mem_filter.mpr ⟨List.mem_flatten.mpr ⟨r, hr, hc⟩, decide_eq_true e⟩
    rw [h] at m
    exact hx c (List.mem_filter.mp m).1
end Gv
namespace Gv
open PySem PySem.Spec PyProof.Rows L2 GxR Gx Gd Gm Gc Gk Gs
theorem sqL_tk {K : PySem.W.Frag} {P' : Addr} {H H' : Hp} {a : Addr} {xs : List V} (h : SqL K H a xs) (g : TabG H P') (k : Tk P' H H') : SqL K H' a xs := by
  rcases h with (h | ⟨o, h⟩) | h
  · exact .inl (.inl (k.2 _ _ h (tab_ne g h fun _ q => nomatch q)))
  · exact .inl (.inr ⟨o, k.2 _ _ h (tab_ne g h fun _ q => nomatch q)⟩)
  · exact .inr h
end Gv
namespace Gv
open PySem PySem.Spec PyProof.Rows L2 GxR Gx
/-- a join within a comprehension -/
def tJoin (K : PySem.W.Frag) (to te : TE) : TE := tM1 (fun x xs H Q => ∃ a p, ∃ ys : List Str, x = .str a ∧ xs = [.ref p] ∧ (SqL K H p (ys.map V.str) ∨ SqT K H p (ys.map V.str)) ∧ (ys.map (·.length)).sum + ys.length * a.length ≤ 16777216 ∧ Q (.str (Txt.join a ys)) H) to te
theorem pe_joinK {X : Cx} {o e : Expr} {to te : TE} {apos pos : Pos} (K : PySem.W.Frag) (hK : X.K = K) (ho : PE X o to) (he : PE X e te) (hs : starEach [e] X.env = [(false, eval e X.env)] := by rfl)
    (hbase : attributeBase o "join" X.env (eval o X.env) = eval o X.env := by rfl) (hline : (apos.endLine == pos.line) = true := by rfl) : PE X (.Call (.Attribute o "join" apos) [e] [] pos) (tJoin K to te) := by
  subst hK
  exact pe_join ho he hs hbase hline
end Gv

set_option Elab.async false
set_option linter.all false
set_option maxRecDepth 100000
set_option maxHeartbeats 2000000
/-! The word of an error, whatever its class. -/
namespace Gw
open PySem PySem.Spec PyProof.Rows L2 GxR Gx Gd Gn Gm Gc Gk
def CLS : List Str := ["NoDeck", "NoDeed", "NoLink", "NoMaster", "NoName", "NoNumber", "NoPlace", "NoPress", "NoRoom", "NoRow", "NoSetting", "NoShow", "NoSlide", "NoSteps", "NoText", "NoTime", "NoTrait", "NoWord", "NoWorth", "Ring", "Taken", "TooMany", "Used"]
def WRA : List Str := ["deck", "deed", "link", "master", "name", "number", "place", "press", "room", "row", "setting", "show"]
def WRB : List Str := ["slide", "steps", "text", "time", "trait", "word", "worth", "ring", "taken", "many", "used"]
def rk (one : Str) : List Str → Nat
  | [] => 0
  | x :: r => if x = one then 0 else rk one r + 1
def wordOf (one : Str) : Str := ((WRA ++ WRB)[rk one CLS]?).getD ""
def fl (one x : Str) : V := .bl (decide (x = one))
theorem fl_facts : ∀ one ∈ CLS, (CLS.map (fl one)).countP (fun z => eqV z (.bl true)) = 1 ∧ (CLS.map (fl one)).all flatV = true ∧ (CLS.map (fl one))[rk one CLS]? = some (.bl true) ∧ ((CLS.map (fl one)).take (rk one CLS)).all (fun z => eqV z (.bl true) == false) = true ∧ (WRA ++ WRB)[rk one CLS]? = some (wordOf one) := by decide +kernel
theorem fl_not {one : Str} (h : one ∈ CLS) (m : Nat) (z : V) (hm : m < rk one CLS) (hz : (CLS.map (fl one))[m]? = some z) : eqV z (.bl true) = false := by
  have h4 := (fl_facts one h).2.2.2.1
  have e : ((CLS.map (fl one)).take (rk one CLS))[m]? = some z := by
    rw [List.getElem?_take, if_pos hm]
    exact hz
  exact beq_iff_eq.mp (List.all_eq_true.mp h4 z (List.mem_of_getElem? e))
structure TxtC (K : PySem.W.Frag) (mg : Str → Option Value) : Prop where
  cls : ∀ x, CLS.contains x = true → mg x = some (.ref (He.ga K x))
/-- what the head tells of one error's class -/
def ewB (K : PySem.W.Frag) (one : Str) : Bool := excB K (He.ga K one) && (decide (PySem.W.exmOne K (.ref (He.ga K one)) (.ref (He.ga K "DeckError")) = some true) && (kitB K (He.ga K one) one CLS && decide (PySem.W.kitOne K (.ref (He.ga K one)) (.type "ValueError") = some true)))
structure ErW (K : PySem.W.Frag) (mg : Str → Option Value) (one : Str) : Prop extends Er K mg one where
  e : PySem.W.exmOne K (.ref (He.ga K one)) (.ref (He.ga K "DeckError")) = some true
  kit : kitB K (He.ga K one) one CLS = true
  kv : PySem.W.kitOne K (.ref (He.ga K one)) (.type "ValueError") = some true
  m : one ∈ CLS
theorem ewB_ok {K : PySem.W.Frag} {mg : Str → Option Value} {one : Str} (h : ewB K one = true) (g : mg one = some (.ref (He.ga K one))) (m : one ∈ CLS) : ErW K mg one := by
  unfold ewB at h
  simp only [Bool.and_eq_true, decide_eq_true_eq] at h
  obtain ⟨h1, h2, h3, h4⟩ := h
  exact ⟨⟨excB_ok h1, g⟩, h2, h3, h4, m⟩
theorem kitW {K : PySem.W.Frag} {mg : Str → Option Value} {one : Str} (N : ErW K mg one) {x : Str} (hx : CLS.contains x = true) : PySem.W.kitOne K (.ref (He.ga K one)) (.ref (He.ga K x)) = some (decide (x = one)) := kitB_ok N.kit (List.contains_iff_mem.mp hx)
def spWord (K : PySem.W.Frag) (mg : Str → Option Value) : Sp := fun vs H Q _ => ∃ (a : Addr) (one : Str), vs = [.ref a] ∧ ErW K mg one ∧ H a = some (ExK (.ref (He.ga K one)) none a) ∧ ∀ H', Same H H' → Q (.str (wordOf one)) H'
/-- an error's object stays what it is -/
theorem exK_ne {H : Hp} {a b : Addr} {c : Value} {o : HO} (h : H a = some (ExK c none a)) (hb : H b = some o) (n : ∀ phi, o ≠ .ext phi) : a ≠ b := by
  intro e
  rw [e, hb] at h
  exact n _ (Option.some.inj h)
end Gw

set_option Elab.async false
set_option linter.all false
set_option maxRecDepth 100000
set_option maxHeartbeats 2000000
/-! Things of other kinds, names that are none of some. -/
namespace Gt
open PySem PySem.Spec PyProof.Rows L2 GxR Gx Gd Gn Gm Gc Gk
theorem th_kp {H H' : Hp} {p L : Addr} {ns : List Int} {n m : Nat} {x : V} (hP : Pen H p L ns n) (hP' : Pen H' p L ns m) (h : Ok1 H x) (k : Kp p H H') : Ok1 H' x := by
  refine ⟨?_, h.2⟩
  obtain ⟨a, r, hp, _⟩ := hP.at_
  have h1 := h.1
  cases h1 with
  | non => exact .non
  | bl b => exact .bl b
  | int i => exact .int i
  | str z => exact .str z
  | @lst a xs e =>
    by_cases ea : a = p
    · obtain ⟨a', r', hp', _⟩ := hP'.at_
      rw [ea]
      exact .lst hp'
    · exact .lst (k _ _ e ea)
  | tup e => exact .tup (k _ _ e (ne_of e hp fun q => nomatch q))
  | dK e => exact .dK (k _ _ e (ne_of e hp fun q => nomatch q))
theorem okA_kp {H H' : Hp} {p L : Addr} {ns : List Int} {n m : Nat} {xs : List V} (hP : Pen H p L ns n) (hP' : Pen H' p L ns m) (h : ∀ x ∈ xs, Ok1 H x) (k : Kp p H H') : ∀ x ∈ xs, Ok1 H' x := fun x hx => th_kp hP hP' (h x hx) k
/-- what is kept of things: no text, or a text that is none of these -/
def keepV (zs : List Str) (x : V) : Bool := !isStr x || !inV x (zs.map V.str)
theorem keep_str {zs : List Str} {z : Str} (h : keepV zs (.str z) = true) : z ∉ zs := by
  unfold keepV at h
  rw [inV_strs, show isStr (.str z) = true from rfl, Bool.not_true, Bool.false_or, Bool.not_eq_true'] at h
  exact of_decide_eq_false h
theorem fnd_no {ms : List MaM} {z : Str} (h : z ∉ ms.map (·.name)) : fnd ms z = none := by
  cases e : fnd ms z with
  | none => rfl
  | some m =>
    obtain ⟨h1, h2⟩ := fnd_some e
    exact absurd (List.mem_map.mpr ⟨m, h1, h2⟩) h
theorem keep_fnd {ms : List MaM} {x : V} (h : keepV (ms.map (·.name)) x = true) : fndV ms x = none := by
  cases x with
  | str z => exact fnd_no (keep_str h)
  | _ => rfl
theorem fold_in {y : Str} : ∀ {l acc : List Str}, y ∈ acc ∨ y ∈ l → y ∈ l.foldl addN acc
  | [], acc, h => h.resolve_right fun q => nomatch q
  | z :: r, acc, h => by
    refine fold_in (l := r) (acc := addN acc z) ?_
    rcases h with h | h
    · left
      unfold addN
      split
      · exact h
      · exact List.mem_append_left _ h
    · rcases List.mem_cons.mp h with h | h
      · left
        unfold addN
        split
        · rw [h]; assumption
        · rw [h]; exact List.mem_append_right _ List.mem_cons_self
      · exact .inr h
theorem said_there {ms : List MaM} {z y : Str} (h : said (chn ms z) y ≠ []) : y ∈ there ms z := by
  obtain ⟨s, hs⟩ := List.exists_mem_of_ne_nil _ h
  obtain ⟨m, hm, _, hp, e⟩ := said_pl hs
  exact fold_in (.inr (List.mem_flatMap.mpr ⟨m, List.mem_reverse.mpr hm, List.mem_map.mpr ⟨s.2, hp, e⟩⟩))
theorem keep_said {ms : List MaM} {z : Str} {x : V} (h : keepV (there ms z) x = true) : saidV (chn ms z) x = [] := by
  cases x with
  | str y =>
    cases e : said (chn ms z) y with
    | nil => exact e
    | cons a r => exact absurd (said_there (by rw [e]; exact fun q => nomatch q)) (keep_str h)
  | _ => rfl
theorem there_len (ms : List MaM) (z : Str) (h : ∀ m ∈ chn ms z, m.own.length ≤ 8) : (there ms z).length ≤ 160 := by
  have h1 := fold_len (l := plN (chn ms z).reverse) (acc := [])
  have h2 := plN_len (l := (chn ms z).reverse) fun m hm => h m (List.mem_reverse.mp hm)
  have h3 := chn_len ms z
  rw [List.length_reverse] at h2
  have h4 : ([] : List Str).length = 0 := rfl
  show ((plN (chn ms z).reverse).foldl addN []).length ≤ 160
  omega
theorem filter_more {α : Type} {p : α → Bool} {l : List α} {i : Nat} {x : α} (e : l[i]? = some x) : (l.take (i + 1)).filter p = if p x = true then (l.take i).filter p ++ [x] else (l.take i).filter p := by
  rw [take_more e, List.filter_append]
  by_cases h : p x = true
  · rw [if_pos h, List.filter_cons_of_pos h] <;> rfl
  · rw [if_neg h, List.filter_cons_of_neg h, List.filter_nil, List.append_nil]
theorem strs_ok {H : Hp} {zs : List Str} (h : ∀ z ∈ zs, z.length ≤ 1000) : ∀ x ∈ zs.map V.str, Ok1 H x := fun x hx => by
  obtain ⟨z, hz, rfl⟩ := List.mem_map.mp hx
  exact ok_str (Nat.le_of_lt (small1000 (h z hz)))
end Gt

set_option Elab.async false
set_option linter.all false
set_option maxRecDepth 100000
set_option maxHeartbeats 2000000
/-! Worths of traits by their bounds. -/
namespace Gb
open PySem PySem.Spec PyProof.Rows L2 GxR Gx Gd Gn Gm Gc Gk
def withB (lo hi : Int) : V → Bool
  | .int n => decide (lo ≤ n) && decide (n ≤ hi)
  | _ => false
def betw (b : Int × Int) : V → Bool
  | .int n => decide (b.1 ≤ n) && decide (n ≤ b.2)
  | _ => false
def worthB (z : Str) (x : V) : Bool := if z = "ink" then nameV x else betw (bnd z) x
theorem betw_no {b : Int × Int} {x : V} (h : wholeV x = false) : betw b x = false := by
  cases x <;> first | rfl | cases h
structure BN (K : PySem.W.Frag) (w : World) : Prop where
  bd : ∀ z ∈ TRS, z ≠ "ink" → ∃ a, KDct K w (He.ga K "BOUNDS") z (.ref a) ∧ ∀ H, SqT K H a [.int (bnd z).1, .int (bnd z).2]
/-! ### what the head tells of the worths' bounds -/
def seqB (K : PySem.W.Frag) (a : Addr) (vs : List V) : Bool := match K.lookup a with
  | some ⟨.type c, _, .seq its _, _⟩ => decide (c = "tuple") && (decide (its.size ≤ sizeLine) && He.relAll vs its.toList)
  | _ => false
theorem seqB_ok {K : PySem.W.Frag} {a : Addr} {vs : List V} (h : seqB K a vs = true) (H : Hp) : SqT K H a vs := by
  unfold seqB at h
  split at h
  · rename_i c dd its n sl e
    simp only [Bool.and_eq_true, decide_eq_true_eq] at h
    obtain ⟨rfl, h2, h3⟩ := h
    exact .inr ⟨_, its, n, e, rfl, rfl, h2, He.relAll_ok h3⟩
  · cases h
def BKS : List Str := ["left", "top", "wide", "high", "size"]
def boundsB (K : PySem.W.Frag) : Bool := BKS.all fun z => match PySem.W.nsIn K (He.ga K "BOUNDS") z with
  | some (some (.ref a)) => seqB K a [.int (bnd z).1, .int (bnd z).2]
  | _ => false
theorem bks {z : Str} (h : z ∈ TRS) (n : z ≠ "ink") : z ∈ BKS := by
  simp only [TRS, List.mem_cons, List.not_mem_nil, or_false] at h
  rcases h with rfl | rfl | rfl | rfl | rfl | rfl
  · decide +kernel
  · decide +kernel
  · decide +kernel
  · decide +kernel
  · decide +kernel
  · exact absurd rfl n
theorem boundsB_ok {K : PySem.W.Frag} {w : World} (h : boundsB K = true) (d : ∃ es n, L2.KDict K w (He.ga K "BOUNDS") es n) : BN K w := by
  refine ⟨fun z mz nz => ?_⟩
  have h1 := List.all_eq_true.mp h z (bks mz nz)
  obtain ⟨es, n, hd⟩ := d
  split at h1
  · rename_i a e
    exact ⟨a, ⟨es, n, .ref a, hd.at_, hd.lit, e, rfl⟩, fun H => seqB_ok h1 H⟩
  · cases h1
end Gb

set_option Elab.async false
set_option linter.all false
set_option maxRecDepth 100000
set_option maxHeartbeats 2000000
namespace K34
open PySem PySem.Spec PyProof.Rows L2 GxR Gx Gd Gn Gm Gc Gk Gs Gv Gw Gt Gb
def top (i : Nat) : Stmt := PySem.Challenge.pw_mastershow_k34_what_fits.main.body.getD i (.Pass ⟨0, 0, 0, 0⟩)
abbrev FnP (K : PySem.W.Frag) (x : Str) (st : Stmt) (f : Addr) (fd : FuncData) : Prop := FunD K x x (defArgs st) (defBody st) (defScope st) [] [] f fd
structure Txt (mg : Str → Option Value) : Prop where
  m_len : mg "len" = none
  m_bool : mg "bool" = none
  m_isinstance : mg "isinstance" = none
  m_list : mg "list" = none
  m_range : mg "range" = none
  m_int : mg "int" = none
  m_tuple : mg "tuple" = none
  m_max : mg "max" = none
  m_min : mg "min" = none
  m_str : mg "str" = none
  m_all : mg "all" = none
  m_zip : mg "zip" = none
  m_ValueError : mg "ValueError" = none
abbrev sis_whole : Stmt := top 26
theorem scis_whole : FnScope ["thing"] ["thing"] (defScope sis_whole) := ⟨rfl, rfl, rfl, by decide +kernel, rfl, by decide +kernel, by decide +kernel⟩
abbrev sis_whole_from : Stmt := top 27
theorem scis_whole_from : FnScope ["thing", "low"] ["thing", "low"] (defScope sis_whole_from) := ⟨rfl, rfl, rfl, by decide +kernel, rfl, by decide +kernel, by decide +kernel⟩
abbrev sis_whole_within : Stmt := top 28
theorem scis_whole_within : FnScope ["thing", "low", "high"] ["thing", "low", "high"] (defScope sis_whole_within) := ⟨rfl, rfl, rfl, by decide +kernel, rfl, by decide +kernel, by decide +kernel⟩
abbrev sis_one_of : Stmt := top 29
theorem scis_one_of : FnScope ["thing", "words"] ["thing", "words"] (defScope sis_one_of) := ⟨rfl, rfl, rfl, by decide +kernel, rfl, by decide +kernel, by decide +kernel⟩
abbrev sis_name : Stmt := top 36
theorem scis_name : FnScope ["thing"] ["thing"] (defScope sis_name) := ⟨rfl, rfl, rfl, by decide +kernel, rfl, by decide +kernel, by decide +kernel⟩
abbrev sis_trait : Stmt := top 37
theorem scis_trait : FnScope ["thing"] ["thing"] (defScope sis_trait) := ⟨rfl, rfl, rfl, by decide +kernel, rfl, by decide +kernel, by decide +kernel⟩
abbrev sis_worth : Stmt := top 38
theorem scis_worth : FnScope ["trait", "thing", "low", "high"] ["trait", "thing"] (defScope sis_worth) := ⟨rfl, rfl, rfl, by decide +kernel, rfl, by decide +kernel, by decide +kernel⟩
abbrev swords_of : Stmt := top 40
theorem scwords_of : FnScope ["line", "word"] ["line"] (defScope swords_of) := ⟨rfl, rfl, rfl, by decide +kernel, rfl, by decide +kernel, by decide +kernel⟩
abbrev srows_of_line : Stmt := top 41
theorem scrows_of_line : FnScope ["line", "wide", "rows", "row", "word"] ["line", "wide"] (defScope srows_of_line) := ⟨rfl, rfl, rfl, by decide +kernel, rfl, by decide +kernel, by decide +kernel⟩
abbrev srows_of : Stmt := top 42
theorem scrows_of : FnScope ["lines", "wide", "line", "row"] ["lines", "wide"] (defScope srows_of) := ⟨rfl, rfl, rfl, by decide +kernel, rfl, by decide +kernel, by decide +kernel⟩
abbrev sfits : Stmt := top 43
theorem scfits : FnScope ["lines", "wide", "high", "size", "signs"] ["lines", "wide", "high", "size"] (defScope sfits) := ⟨rfl, rfl, rfl, by decide +kernel, rfl, by decide +kernel, by decide +kernel⟩
abbrev sgreatest_size : Stmt := top 44
theorem scgreatest_size : FnScope ["lines", "wide", "high", "size", "tried"] ["lines", "wide", "high", "size"] (defScope sgreatest_size) := ⟨rfl, rfl, rfl, by decide +kernel, rfl, by decide +kernel, by decide +kernel⟩
abbrev sshrunk_to : Stmt := top 45
theorem scshrunk_to : FnScope ["lines", "wide", "high", "size"] ["lines", "wide", "high", "size"] (defScope sshrunk_to) := ⟨rfl, rfl, rfl, by decide +kernel, rfl, by decide +kernel, by decide +kernel⟩
section
variable {P : Program} {w : World} {K : PySem.W.Frag} {mg : Str → Option Value} {base : Heap}
/-! ### the program's rows -/
def spWhole : Sp := fun vs H Q _ => ∃ v, vs = [v] ∧ Th H v ∧ Q (.bl (wholeV v)) H
theorem ok_whole {f : Addr} {fd : FuncData} (F : FnP K "is_whole" sis_whole f fd) (T : Txt mg) : FnOk P w K mg base CX0 1 f fd ["thing"] spWhole := by
  refine okN F scis_whole (fun vs H Q E h => ?_) (fun cdv A outer s H vs Q E hr h => ?_)
  · obtain ⟨v, rfl, _⟩ := h
    rfl
  · obtain ⟨v, rfl, hT, q⟩ := h
    refine ⟨_, (pss_one (ps_ret (pe_and (pe_callB call_isi (by rfl) T.m_isinstance (by decide +kernel) (pa_cons (pv 0) (pa_cons (pe_bltn (v := .ty "int") (u := .type "int") rfl T.m_int (by decide +kernel) rfl) pa_nil))) (pe_one (pe_not (pe_callB call_isi (by rfl) T.m_isinstance (by decide +kernel) (pa_cons (pv 0) (pa_cons (pe_bltn (v := .ty "bool") (u := .type "bool") rfl T.m_bool (by decide +kernel) rfl) pa_nil)))))))), ?_⟩
    obtain ⟨t, ty, kt⟩ := Th.int_ (K := K) hT
    obtain ⟨t', ty', kt'⟩ := Th.bool_ (K := K) hT
    refine ⟨_, rfl, v, .ty "int", t, .type "int", isInt v, rfl, .ty "int", ty, kt, _, rfl, ?_⟩
    cases hT with
    | int i =>
      refine iteT ?_
      exact ⟨_, rfl, .int i, .ty "bool", t', .type "bool", false, rfl, .ty "bool", ty', kt', _, rfl, q⟩
    | bl b =>
      refine iteT ?_
      exact ⟨_, rfl, .bl b, .ty "bool", t', .type "bool", true, rfl, .ty "bool", ty', kt', _, rfl, q⟩
    | _ => exact q
def fromB (lo : Int) : V → Bool
  | .int n => decide (lo ≤ n)
  | _ => false
def spFrom : Sp := fun vs H Q _ => ∃ (v : V) (lo : Int), vs = [v, .int lo] ∧ Th H v ∧ Q (.bl (fromB lo v)) H
theorem ok_from {f : Addr} {fd : FuncData} (F : FnP K "is_whole_from" sis_whole_from f fd) (T : Txt mg) (D_is_whole : Dn P w K mg base 1 "is_whole" ["thing"] spWhole) : FnOk P w K mg base CX0 2 f fd ["thing", "low"] spFrom := by
  refine okN F scis_whole_from (fun vs H Q E h => ?_) (fun cdv A outer s H vs Q E hr h => ?_)
  · obtain ⟨v, lo, rfl, _⟩ := h
    rfl
  · obtain ⟨v, lo, rfl, hT, q⟩ := h
    refine ⟨_, (pss_one (ps_ret (pe_and (pe_dn D_is_whole (hr.mono (by decide)) rfl (pa_cons (pv 0) pa_nil)) (pe_one (pe_cmpR op_le (pv 1) (pv 0) (nomark _)))))), ?_⟩
    refine ⟨_, rfl, v, rfl, hT, _, rfl, ?_⟩
    cases hw : wholeV v with
    | false =>
      have e : fromB lo v = false := by cases v <;> first | rfl | cases hw
      rw [e] at q
      exact q
    | true =>
      obtain ⟨i, rfl⟩ : ∃ i, v = .int i := by cases v <;> first | exact ⟨_, rfl⟩ | cases hw
      refine iteT ?_
      exact ⟨_, rfl, _, rfl, _, _, rfl, rfl, q⟩
def spWordsOf : Sp := fun vs H Q _ => ∃ z : Str, vs = [.str z] ∧ z.length ≤ 1000 ∧ ∀ (p : Addr) (H' : Hp), Same H H' → H p = none → H' p = some (.lst (tx (wd (cp z)))) → Q (.ref p) H'
theorem ok_wordsOf {f : Addr} {fd : FuncData} (F : FnP K "words_of" swords_of f fd) (T : Txt mg) : FnOk P w K mg base CX0 1 f fd ["line"] spWordsOf := by
  refine okN F scwords_of (fun vs H Q E h => ?_) (fun cdv A outer s H vs Q E hr h => ?_)
  · obtain ⟨z, rfl, _⟩ := h
    rfl
  · obtain ⟨z, rfl, hz, q⟩ := h
    refine ⟨_, (pss_one (ps_ret (pe_lc (own := [("word", 1)]) (g := gName 1) (by rfl) scwords_of.nd (pi_list (pe_bm PySem.F.plainAttrs_str PySem.F.slot_str_split PySem.F.type_str_split mt_split (pv 0) (pa_cons pe_str pa_nil))) (blkOk_by (own := [("word", 1)]) (N := ["line", "word"]) (sc := defScope swords_of) (by decide +kernel)) (fun _ _ _ _ _ => (pg_name (i := 1) scwords_of.nd rfl (Or.inl rfl))) (fun _ _ _ _ _ => (pts_one (pt_truK K rfl (pv 1) (by intro _; rfl)))) (fun _ _ _ _ _ => (pv 1))))), ?_⟩
    refine ⟨_, rfl, rfl, z, (" " : Str), rfl, rfl, (by decide +kernel), Nat.le_of_lt (small1000' (by omega)), fun S hS => ?_⟩
    rw [split_mk]
    have s1 := same_new (o := .lst (tx (spl (cp z)))) hS
    have x1 : (upd H S (.lst (((spl (cp z)).map mk).map V.str))) S = some (.lst (tx (spl (cp z)))) := upd_same
    have s1 : Same H (upd H S (.lst (((spl (cp z)).map mk).map V.str))) := s1
    revert x1 s1
    generalize upd H S (.lst (((spl (cp z)).map mk).map V.str)) = H1
    intro x1 s1
    have lS := spl_few (cp z)
    rw [cp_len] at lS
    refine ⟨S, rfl, ⟨_, SqL.of x1⟩, fun D hD => ?_⟩
    refine lc_list (K := K) (a := S) (xs := tx (spl (cp z))) (fun i H3 => Same H1 H3 ∧ H3 D = some (.lst (tx (((spl (cp z)).take i).filter (· ≠ []))))) ⟨same_new hD, upd_same⟩ (fun i H3 _ h => SqL.of (h.1 _ _ x1)) ?_ ?_
    · rintro i v H3 hi ⟨s3, x3⟩
      obtain ⟨x, ex, rfl⟩ := tx_at hi
      have lx : (mk x).length ≤ 1000 := by
        have := spl_short (List.mem_of_getElem? ex)
        rw [cp_len] at this
        rw [mk_len]
        omega
      refine ⟨rfl, ?_⟩
      refine ⟨_, rfl, _, ⟨Nat.le_of_lt (small1000 lx), rfl⟩, ?_⟩
      have et : (((mk x).length : Int) != 0) = decide (x ≠ []) := by
        rw [mk_len]
        cases x with
        | nil => rfl
        | cons a b =>
          rw [show decide ((a :: b) ≠ []) = true from rfl]
          exact bne_iff_ne.mpr (by rw [List.length_cons]; omega)
      rw [et]
      refine iteB (fun h => ?_) fun h => ?_
      · refine ⟨_, rfl, _, x3, ?_, fun b o e => ?_, ?_⟩
        · have h1 := List.length_filter_le (fun y : W => decide (y ≠ [])) ((spl (cp z)).take i)
          rw [List.length_take] at h1
          rw [tx_len]
          exact small1000' (by omega)
        · rw [upd_ne (ne_of_none e hD)]
          exact s3 _ _ e
        · rw [upd_same, fmore ex, if_pos h, tx_app] <;> rfl
      · refine ⟨s3, ?_⟩
        rw [fmore ex, if_neg (by rw [h]; decide)]
        exact x3
    · rintro H3 ⟨s3, x3⟩
      rw [tx_len, List.take_length] at x3
      exact q D H3 (s1.trans s3) (by
        cases e : H D with
        | none => rfl
        | some o => rw [s1 _ _ e] at hD; cases hD) x3
def spRowsLine : Sp := fun vs H Q _ => ∃ (z : Str) (n : Nat), vs = [.str z, .int (n : Int)] ∧ z.length ≤ 1000 ∧ 1 ≤ n ∧ ∀ (p : Addr) (H' : Hp), Same H H' → H p = none → H' p = some (.lst (tx (rowsL n (cp z)))) → Q (.ref p) H'
theorem ok_rowsLine {f : Addr} {fd : FuncData} (F : FnP K "rows_of_line" srows_of_line f fd) (T : Txt mg) (D_words_of : Dn P w K mg base 1 "words_of" ["line"] spWordsOf) : FnOk P w K mg base CX0 2 f fd ["line", "wide"] spRowsLine := by
  refine okN F scrows_of_line (fun vs H Q E h => ?_) (fun cdv A outer s H vs Q E hr h => ?_)
  · obtain ⟨z, n, rfl, _⟩ := h
    rfl
  · obtain ⟨z, n, rfl, hz, hn, q⟩ := h
    refine ⟨_, (pss_cons (ps_set (i := 2) scrows_of_line.nd rfl (Or.inl rfl) (pe_lst pa_nil))
      (pss_cons (ps_set (i := 3) scrows_of_line.nd rfl (Or.inl rfl) pe_str)
      (pss_cons (ps_for PassesOwn.never rfl (pi_list (pe_dn D_words_of (hr.mono (by decide)) rfl (pa_cons (pv 0) pa_nil))) (pg_name (i := 4) scrows_of_line.nd rfl (Or.inl rfl)) (pss_cons (ps_if (PW.pt (pw_and (pt_truth (pv 3) (by intro _; rfl)) (pw_and1 (pt_cmpR op_le (pe_op op_add (pe_op op_add (pe_callB call_len_str (by rfl) T.m_len (by decide +kernel) (pa_cons (pv 3) pa_nil)) pe_int) (pe_callB call_len_str (by rfl) T.m_len (by decide +kernel) (pa_cons (pv 4) pa_nil))) (pv 1) (nomark _))))) (pss_cons (ps_set (i := 3) scrows_of_line.nd rfl (Or.inl rfl) (pe_op op_add_str (pe_op op_add_str (pv 3) pe_str) (pv 4)))
      (pss_one ps_continue)) pss_nil)
      (pss_cons (ps_if (pt_truth (pv 3) (by intro _; rfl)) (pss_one (ps_expr (pe_bm PySem.F.plainAttrs_list PySem.F.slot_list_append PySem.F.type_list_append mt_append (pv 2) (pa_cons (pv 3) pa_nil)))) pss_nil)
      (pss_cons (ps_set (i := 3) scrows_of_line.nd rfl (Or.inl rfl) (pv 4))
      (pss_one (ps_while PassesOwn.never (pt_cmpR op_gt (pe_callB call_len_str (by rfl) T.m_len (by decide +kernel) (pa_cons (pv 3) pa_nil)) (pv 1) (nomark _)) (pss_cons (ps_expr (pe_bm PySem.F.plainAttrs_list PySem.F.slot_list_append PySem.F.type_list_append mt_append (pv 2) (pa_cons (pe_slice sl_str (pv 3) po_none (po_some (pv 1))) pa_nil)))
      (pss_one (ps_set (i := 3) scrows_of_line.nd rfl (Or.inl rfl) (pe_slice sl_str (pv 3) (po_some (pv 1)) po_none))))))))))
      (pss_one (ps_ret (pe_op op_cat (pv 2) (pe_lst (pa_cons (pv 3) pa_nil)))))))), ?_⟩
    refine ⟨(by show 0 ≤ sizeLine; decide), fun R hR => ?_⟩
    have s0 := same_new (o := .lst []) hR
    have xR : (upd H R (.lst [])) R = some (.lst (tx [])) := upd_same
    revert xR s0
    generalize upd H R (.lst []) = H0
    intro s0 xR
    refine ⟨_, rfl, z, rfl, hz, fun D H1 s1 hD x1 => ?_⟩
    have nDR : D ≠ R := (ne_of_none xR hD).symm
    have hR0 := hR
    have hw := fun (i : Nat) => RI.fold hn (us := (wd (cp z)).take i) RI.zero fun y hy => wd_mem (List.mem_of_mem_take hy)
    have lW := wd_few (cp z)
    rw [cp_len] at lW
    have few : ∀ i : Nat, (((wd (cp z)).take i).foldl (stepR n) ([], [])).1.length ≤ 1000 ∧ (((wd (cp z)).take i).foldl (stepR n) ([], [])).2.length ≤ n := fun i => by
      have h := RI.few (hw i)
      rw [List.nil_append] at h
      have h2 : ((wd (cp z)).take i).flatten.length ≤ (wd (cp z)).flatten.length := by
        rw [← List.take_append_drop i (wd (cp z)), List.flatten_append, List.length_append, List.take_append_drop]
        omega
      exact ⟨by omega, h.2⟩
    refine ⟨D, rfl, ⟨_, SqL.of x1⟩, for_list (K := K) (a := D) (xs := tx (wd (cp z))) (fun i σ H2 => ∃ v4 : Option V, σ = [some (.str z), some (.int (n : Int)), some (.ref R), some (.str (mk (((wd (cp z)).take i).foldl (stepR n) ([], [])).2)), v4] ∧ (∀ b o, H b = some o → H2 b = some o) ∧ H2 D = some (.lst (tx (wd (cp z)))) ∧ H2 R = some (.lst (tx (((wd (cp z)).take i).foldl (stepR n) ([], [])).1))) ?_ ?_ ?_ ?_⟩
    · refine ⟨none, rfl, fun b o e => s1 _ _ (s0 _ _ e), x1, s1 _ _ xR⟩
    · rintro i σ H2 hi ⟨_, _, _, x2, _⟩
      exact SqL.of x2
    · rintro i v σ H2 hi ⟨v4, rfl, k2, x2, y2⟩
      obtain ⟨x, ex, rfl⟩ := tx_at hi
      have mx := List.mem_of_getElem? ex
      obtain ⟨nx, fx⟩ := wd_mem mx
      have lx : x.length ≤ 1000 := by
        have := wd_short mx
        rw [cp_len] at this
        omega
      have est : ((wd (cp z)).take (i + 1)).foldl (stepR n) ([], []) = stepR n (((wd (cp z)).take i).foldl (stepR n) ([], [])) x := by
        rw [take_more ex, List.foldl_append] <;> rfl
      obtain ⟨f1, f2⟩ := few i
      obtain ⟨f3, f4⟩ := few (i + 1)
      have hR2 : ∀ {a b : List W}, H2 R = some (.lst (tx a)) → True := fun _ => trivial
      have l2 : (((wd (cp z)).take i).foldl (stepR n) ([], [])).2.length ≤ 2001 := by
        have h := hw i
        rw [List.nil_append] at h
        have h2 : ((wd (cp z)).take i).flatten.length ≤ (wd (cp z)).flatten.length := by
          rw [← List.take_append_drop i (wd (cp z)), List.flatten_append, List.length_append, List.take_append_drop]
          omega
        exact Nat.le_trans (RI.lastLen h) (by omega)
      rw [est] at f3 f4 ⊢
      have ki := hw i
      revert y2 f1 f2 f3 f4 l2 ki
      generalize ((wd (cp z)).take i).foldl (stepR n) ([], []) = st
      intro y2 f1 f2 f3 f4 l2 ki
      have lm : (mk st.2).length ≤ 2001 := by rw [mk_len]; exact l2
      have ne0 : (((mk st.2).length : Int) != 0) = decide (st.2 ≠ []) := by
        rw [mk_len]
        cases st.2 with
        | nil => rfl
        | cons a b =>
          rw [show decide ((a :: b) ≠ []) = true from rfl]
          exact bne_iff_ne.mpr (by rw [List.length_cons]; omega)
      have lx' : (mk x).length ≤ sizeLine := Nat.le_of_lt (small4000 (by rw [mk_len]; omega))
      have lm' : (mk st.2).length ≤ sizeLine := Nat.le_of_lt (small4000 (by omega))
      refine seq_via (fun σ' H' => σ' = [some (.str z), some (.int (n : Int)), some (.ref R), some (.str (mk st.2)), some (.str (mk x))] ∧ H2 = H' ∧ ¬ (st.2 ≠ [] ∧ st.2.length + 1 + x.length ≤ n)) ?_ ?_
      · intro nx go
        refine ⟨_, rfl, _, ⟨lm', rfl⟩, ?_⟩
        rw [ne0]
        refine iteB (fun hne => ?_) fun hne => ?_
        · have hne := of_decide_eq_true hne
          refine ⟨_, rfl, _, rfl, lm', _, _, rfl, rfl, _, rfl, _, rfl, lx', _, _, rfl, rfl, _, rfl, _, _, rfl, rfl, _, rfl, iteB (fun hf => ?_) fun hf => ?_⟩
          · have hf := of_decide_eq_true hf
            rw [mk_len, mk_len] at hf
            have c : st.2 ≠ [] ∧ st.2.length + 1 + x.length ≤ n := ⟨hne, by omega⟩
            have e1 : stepR n st x = (st.1, st.2 ++ 32 :: x) := if_pos c
            have l1 : (mk st.2).length + (" " : Str).length ≤ sizeLine := Nat.le_of_lt (small4000 (by rw [show (" " : Str).length = 1 by decide +kernel]; omega))
            refine ⟨_, rfl, _, _, rfl, rfl, l1, _, rfl, _, _, rfl, rfl, Nat.le_of_lt (small4000 (by rw [len_add, mk_len, mk_len, show (" " : Str).length = 1 by decide +kernel]; omega)), ?_⟩
            have e2 : mk st.2 ++ (" " : Str) ++ mk x = mk (st.2 ++ 32 :: x) := cp_inj (by
              rw [cp_app, cp_app, cp_mk, cp_mk, cp_mk, cp_blank, List.append_assoc] <;> rfl)
            rw [e1]
            show ∃ v4 : Option V, _
            rw [e2]
            exact ⟨_, rfl, k2, x2, y2⟩
          · have hf := of_decide_eq_false hf
            rw [mk_len, mk_len] at hf
            exact go _ _ ⟨rfl, rfl, fun q => hf (by omega)⟩
        · exact go _ _ ⟨rfl, rfl, fun q => of_decide_eq_false hne q.1⟩
      rintro _ _ ⟨rfl, rfl, nc⟩
      have e1 : stepR n st x = ((if st.2 ≠ [] then st.1 ++ [st.2] else st.1) ++ (chop n x.length x).1, (chop n x.length x).2) := if_neg nc
      -- the row that is full
      refine seq_via (fun σ' H' => σ' = [some (.str z), some (.int (n : Int)), some (.ref R), some (.str (mk st.2)), some (.str (mk x))] ∧ (∀ b o, H b = some o → H' b = some o) ∧ H' D = some (.lst (tx (wd (cp z)))) ∧ H' R = some (.lst (tx (if st.2 ≠ [] then st.1 ++ [st.2] else st.1)))) ?_ ?_
      · intro nx go
        refine ⟨_, rfl, _, ⟨lm', rfl⟩, ?_⟩
        rw [ne0]
        refine iteB (fun hne => ?_) fun hne => ?_
        · have hne := of_decide_eq_true hne
          refine ⟨_, rfl, .inl ⟨rfl, _, SqL.of y2⟩, _, rfl, R, _, _, rfl, rfl, y2, small4000 (by rw [tx_len]; omega), ?_⟩
          refine go _ _ ⟨rfl, fun b o e => ?_, ?_, ?_⟩
          · rw [upd_ne (ne_of_none e hR)]
            exact k2 _ _ e
          · rw [upd_ne nDR]
            exact x2
          · rw [upd_same, if_pos hne, tx_app] <;> rfl
        · have hne := of_decide_eq_false hne
          exact go _ _ ⟨rfl, k2, x2, by rw [if_neg hne]; exact y2⟩
      rintro _ H3 ⟨rfl, k3, x3, y3⟩
      rw [e1] at f3 f4 ⊢
      revert y3 f3
      generalize (if st.2 ≠ [] then st.1 ++ [st.2] else st.1) = base
      intro f3 y3
      -- the word
      refine ⟨_, rfl, ?_⟩
      refine ⟨fun m σ H4 => ∃ (k : Nat) (acc : List W) (y : W), σ = [some (.str z), some (.int (n : Int)), some (.ref R), some (.str (mk y)), some (.str (mk x))] ∧ (∀ b o, H b = some o → H4 b = some o) ∧ H4 D = some (.lst (tx (wd (cp z)))) ∧ H4 R = some (.lst (tx acc)) ∧ y.length ≤ k ∧ y.length ≤ 1000 ∧ acc ++ (chop n k y).1 = base ++ (chop n x.length x).1 ∧ (chop n k y).2 = (chop n x.length x).2 ∧ m = y.length,
        ⟨_, x.length, base, x, rfl, k3, x3, y3, Nat.le_refl _, lx, rfl, rfl, rfl⟩, ?_⟩
      rintro m σ H4 ⟨k, acc, y, rfl, k4, x4, y4, lk, ly, ea, eb, rfl⟩
      have ly' : (mk y).length ≤ sizeLine := Nat.le_of_lt (small4000 (by rw [mk_len]; omega))
      refine ⟨_, rfl, _, rfl, ly', _, rfl, _, _, rfl, rfl, _, rfl, iteB (fun hb => ?_) fun hb => ?_⟩
      · have hb := of_decide_eq_true hb
        rw [mk_len] at hb
        have hb : n < y.length := by omega
        cases k with
        | zero => omega
        | succ k =>
          have ec : chop n (k + 1) y = (y.take n :: (chop n k (y.drop n)).1, (chop n k (y.drop n)).2) := by
            rw [chop, if_pos hb]
          rw [ec] at ea eb
          have la : acc.length ≤ 1000 := by
            have h := congrArg List.length ea
            rw [List.length_append, List.length_cons] at h
            have h2 : (base ++ (chop n x.length x).1).length ≤ 1000 := f3
            omega
          refine ⟨fun σ' H' => ∃ m', m' < y.length ∧ ∃ (k : Nat) (acc : List W) (y : W), σ' = [some (.str z), some (.int (n : Int)), some (.ref R), some (.str (mk y)), some (.str (mk x))] ∧ (∀ b o, H b = some o → H' b = some o) ∧ H' D = some (.lst (tx (wd (cp z)))) ∧ H' R = some (.lst (tx acc)) ∧ y.length ≤ k ∧ y.length ≤ 1000 ∧ acc ++ (chop n k y).1 = base ++ (chop n x.length x).1 ∧ (chop n k y).2 = (chop n x.length x).2 ∧ m' = y.length, fun σ' H' h => h, ?_⟩
          refine ⟨_, rfl, .inl ⟨rfl, _, SqL.of y4⟩, _, rfl, _, rfl, _, rfl, _, rfl, ly', R, _, _, rfl, rfl, y4, small4000 (by rw [tx_len]; omega), ?_⟩
          refine ⟨_, rfl, _, rfl, _, rfl, _, rfl, ly', ?_⟩
          have ld : (y.drop n).length = y.length - n := List.length_drop
          refine ⟨(y.drop n).length, by omega, k, acc ++ [y.take n], y.drop n, ?_, fun b o e => ?_, ?_, ?_, by omega, by omega, ?_, eb, rfl⟩
          · rw [show cutS (mk y) (some (n : Int)) none = mk (y.drop n) from cp_inj (by rw [cut_drop, cp_mk, cp_mk])] <;> rfl
          · rw [upd_ne (ne_of_none e hR)]
            exact k4 _ _ e
          · rw [upd_ne nDR]
            exact x4
          · rw [upd_same, tx_app, show cutS (mk y) none (some (n : Int)) = mk (y.take n) from cp_inj (by rw [cut_take, cp_mk, cp_mk])] <;> rfl
          · rw [← ea, List.append_assoc] <;> rfl
      · have hb := of_decide_eq_false hb
        rw [mk_len] at hb
        have ec : chop n k y = ([], y) := by
          cases k with
          | zero => rfl
          | succ k => rw [chop, if_neg (by omega)]
        rw [ec, List.append_nil] at ea
        rw [ec] at eb
        refine ⟨some (.str (mk x)), ?_, k4, x4, ?_⟩
        · rw [← eb]
        · rw [← ea]
          exact y4
    · rintro σ H2 ⟨v4, rfl, k2, x2, y2⟩
      rw [tx_len, List.take_length] at y2
      rw [tx_len, List.take_length]
      have f := few (wd (cp z)).length
      rw [List.take_length] at f
      refine ⟨_, rfl, _, rfl, (by show 1 ≤ sizeLine; decide), fun B hB => ?_⟩
      have sB := same_new (o := .lst [V.str (mk ((wd (cp z)).foldl (stepR n) ([], [])).2)]) hB
      refine ⟨R, B, _, _, rfl, rfl, sB _ _ y2, upd_same, Nat.le_of_lt (small4000 (by rw [tx_len, List.length_singleton]; omega)), fun C hC => ?_⟩
      have sC := same_new (o := .lst (tx ((wd (cp z)).foldl (stepR n) ([], [])).1 ++ [V.str (mk ((wd (cp z)).foldl (stepR n) ([], [])).2)])) hC
      refine q C _ (fun b o e => sC _ _ (sB _ _ (k2 _ _ e))) ?_ ?_
      · cases e : H C with
        | none => rfl
        | some o =>
          rw [sB _ _ (k2 _ _ e)] at hC
          cases hC
      · rw [upd_same]
        show _ = some (HO.lst (tx (((wd (cp z)).foldl (stepR n) ([], [])).1 ++ [((wd (cp z)).foldl (stepR n) ([], [])).2])))
        rw [tx_app] <;> rfl
/-- rows of many lines -/
def rowsM (n : Nat) (zs : List Str) : List W := zs.flatMap fun z => rowsL n (cp z)
theorem rowsM_few {n : Nat} (hn : 1 ≤ n) : ∀ {zs : List Str}, (∀ z ∈ zs, z.length ≤ 1000) → (rowsM n zs).length ≤ 1001 * zs.length
  | [], _ => Nat.zero_le _
  | z :: r, h => by
    have ih := rowsM_few hn (zs := r) fun x hx => h x (List.mem_cons_of_mem _ hx)
    have h1 := rows_few hn (cp z)
    have h2 := h z List.mem_cons_self
    rw [cp_len] at h1
    show (rowsL n (cp z) ++ rowsM n r).length ≤ _
    rw [List.length_append, List.length_cons]
    omega
theorem rowsM_app (n : Nat) (a b : List Str) : rowsM n (a ++ b) = rowsM n a ++ rowsM n b := List.flatMap_append
theorem rowsM_one (n : Nat) (z : Str) : rowsM n [z] = rowsL n (cp z) := by
  show rowsL n (cp z) ++ [] = _
  rw [List.append_nil]
def spRowsOf (K : PySem.W.Frag) : Sp := fun vs H Q E => ∃ (a : Addr) (v : V) (zs : List Str), vs = [.ref a, v] ∧ SqA K H a (zs.map V.str) ∧ Ok1 H v ∧ zs.length ≤ 100 ∧ (∀ z ∈ zs, z.length ≤ 1000) ∧
  (fromB 1 v = false → E (.ref (He.ga K "NoRoom")) none H) ∧ (∀ n : Nat, v = .int (n : Int) → 1 ≤ n → ∀ (p : Addr) (H' : Hp), Same H H' → H p = none → H' p = some (.lst (tx (rowsM n zs))) → Q (.ref p) H')
theorem sqA_same {H H' : Hp} {a : Addr} {xs : List V} (h : SqA K H a xs) (s : Same H H') : SqA K H' a xs := h.imp (fun h => Same.seq s h) fun h => sqT_same s h
theorem rows_it {J : It} {xs : List V} {G : Hp → Prop} (wk : Walk J xs.length G (YAt xs)) {g g1 : TG} {te : TE} {wi1 : TI} {tt tt1 : TT} {vs vs1 : List Nat} {σ : L2.St} {H1 : Hp} {D : Addr} {Qd : Hp → Prop} (Pv : Nat → Hp → Prop) (h0 : Pv 0 (upd H1 D (.lst []))) (hG : ∀ i H, i ≤ xs.length → Pv i H → G H)
    (σ0 : L2.St) (eσ : wipe σ vs = σ0) (hs : ∀ i x H, xs[i]? = some x → Pv i H → g x σ0 H fun σ2 H2 => wipe σ2 vs = σ0 ∧ tt σ2 H2 fun b H3 => if b = true then wi1 σ2 H3 fun J1 H4 => ∃ W1 : Nat → Nat → Hp → Prop, (∃ m, W1 0 m H4) ∧ ∀ j k H, W1 j k H →
      (J1.stop j H ∧ Pv (i + 1) H) ∨ (J1.go j H ∧ ∃ Nx1 : Hp → Prop, (∀ H', Nx1 H' → ∃ k', k' < k ∧ W1 (j + 1) k' H') ∧ ∀ x H', J1.yld j H x H' → g1 x (wipe σ2 vs1) H' fun σ3 H5 => wipe σ3 vs1 = wipe σ2 vs1 ∧ tt1 σ3 H5 fun b H6 =>
        if b = true then te σ3 H6 fun y H7 => ∃ acc, H7 D = some (.lst acc) ∧ acc.length < sizeLine ∧ Nx1 (upd H7 D (.lst (acc ++ [y]))) else Nx1 H6)
    else Pv (i + 1) H3) (hd : ∀ H, Pv xs.length H → Qd H) :
    ∃ W : Nat → Nat → Hp → Prop, (∃ m, W 0 m (upd H1 D (.lst []))) ∧ ∀ i m H, W i m H →
  (J.stop i H ∧ Qd H) ∨ (J.go i H ∧ ∃ Nx : Hp → Prop, (∀ H', Nx H' → ∃ m', m' < m ∧ W (i + 1) m' H') ∧ ∀ x H', J.yld i H x H' → g x (wipe σ vs) H' fun σ2 H2 => wipe σ2 vs = wipe σ vs ∧ tt σ2 H2 fun b H3 =>
    if b = true then wi1 σ2 H3 fun J1 H4 => ∃ W1 : Nat → Nat → Hp → Prop, (∃ m, W1 0 m H4) ∧ ∀ j k H, W1 j k H →
      (J1.stop j H ∧ Nx H) ∨ (J1.go j H ∧ ∃ Nx1 : Hp → Prop, (∀ H', Nx1 H' → ∃ k', k' < k ∧ W1 (j + 1) k' H') ∧ ∀ x H', J1.yld j H x H' → g1 x (wipe σ2 vs1) H' fun σ3 H5 => wipe σ3 vs1 = wipe σ2 vs1 ∧ tt1 σ3 H5 fun b H6 =>
        if b = true then te σ3 H6 fun y H7 => ∃ acc, H7 D = some (.lst acc) ∧ acc.length < sizeLine ∧ Nx1 (upd H7 D (.lst (acc ++ [y]))) else Nx1 H6)
    else Nx H3) :=
  lc2_itE wk Pv h0 hG σ0 eσ (fun i x H H' hi pv y => by
    obtain ⟨rfl, e⟩ := y
    exact hs i x H' e pv) hd
theorem ok_rowsOf {f : Addr} {fd : FuncData} (F : FnP K "rows_of" srows_of f fd) (T : Txt mg) (N_NoRoom : Er K mg "NoRoom") (D_is_whole_from : Dn P w K mg base 2 "is_whole_from" ["thing", "low"] spFrom) (D_rows_of_line : Dn P w K mg base 2 "rows_of_line" ["line", "wide"] spRowsLine) :
    FnOk P w K mg base (L2.CX P w) 3 f fd ["lines", "wide"] (spRowsOf K) := by
  refine okS F scrows_of (fun vs H Q E h => ?_) (fun cdv A outer s H vs Q E hr h => ?_)
  · obtain ⟨a, v, zs, rfl, _⟩ := h
    rfl
  · obtain ⟨a, v, zs, rfl, ha, hv, lz, hz, ko, q⟩ := h
    refine ⟨_, (pss_cons (ps_if (pt_not (pt_val (pe_dn D_is_whole_from (hr.mono (by decide)) rfl (pa_cons (pv 1) (pa_cons pe_int pa_nil))))) (pss_one (ps_raise rfl (takes_of rfl rfl rfl rfl) (pmk_own PySem.F.excBase_ValueError N_NoRoom.x N_NoRoom.g N_NoRoom.k (raises_own N_NoRoom.b N_NoRoom.t) rfl))) pss_nil)
      (pss_one (ps_ret (pe_lc2 (wi1 := iList K (tCall spRowsLine [] E0 (tCons (tVar 2) (tCons (tVar 1) tNil)))) (own := [("line", 2), ("row", 3)]) (vs1 := [3]) (g := (gName 2)) (g1 := (gName 3)) (by rfl) scrows_of.nd (pi_any (pi_list (pv 0)) (pi_tup (pv 0))) (blkOk_by (own := [("line", 2), ("row", 3)]) (N := ["lines", "wide", "line", "row"]) (sc := defScope srows_of) (by decide +kernel)) (by decide) (fun _ _ _ _ _ => (pg_name (i := 2) scrows_of.nd rfl (Or.inl rfl))) (fun _ _ _ _ _ => pts_nil) (fun _ _ _ _ _ => (pi_list (pe_dn D_rows_of_line (hr.mono (by decide)) rfl (pa_cons (pv 2) (pa_cons (pv 1) pa_nil))))) (fun _ _ _ _ _ => (pg_name (i := 3) scrows_of.nd rfl (Or.inl rfl))) (fun _ _ _ _ _ => pts_nil) (fun _ _ _ _ _ => (pv 3)))))), ?_⟩
    refine ⟨_, rfl, v, 1, rfl, hv.1, _, rfl, iteNb (fun hb => ?_) fun hb => ?_⟩
    · exact ko hb
    · obtain ⟨n, rfl, hn⟩ : ∃ n : Nat, v = .int (n : Int) ∧ 1 ≤ n := by
        cases v with
        | int i =>
          have h1 : 1 ≤ i := of_decide_eq_true (show decide (1 ≤ i) = true from hb)
          exact ⟨i.toNat, by rw [Int.toNat_of_nonneg (by omega)], by omega⟩
        | _ => cases hb
      have q := q n rfl hn
      have few := fun (i : Nat) => rowsM_few hn (zs := zs.take i) fun z hz' => hz z (List.mem_of_mem_take hz')
      have go : ∀ {J : It} {G : Hp → Prop} (wk : Walk J (zs.map V.str).length G (YAt (zs.map V.str))) (hG : ∀ H', Same H H' → G H') (D : Addr), H D = none → _ := fun {J G} wk hG D hD =>
        rows_it wk (g := gName 2) (g1 := gName 3) (vs := [2, 3]) (vs1 := [3]) (σ := [some (.ref a), some (.int (n : Int)), none, none]) (H1 := H) (D := D) (Qd := fun H' => Q (.ref D) H') (te := tVar 3) (tt := tYes) (tt1 := tYes) (wi1 := iList K (tCall spRowsLine [] E0 (tCons (tVar 2) (tCons (tVar 1) tNil))))
          (fun i H' => Same H H' ∧ H' D = some (.lst (tx (rowsM n (zs.take i))))) ⟨same_new hD, upd_same⟩ (fun i H' _ h => hG H' h.1) [some (.ref a), some (.int (n : Int)), none, none] rfl
          (fun i x H' hx ⟨s', x'⟩ => by
            obtain ⟨z, ez, rfl⟩ := str_at hx
            refine ⟨rfl, ?_⟩
            refine ⟨_, rfl, _, rfl, z, n, rfl, hz z (List.mem_of_getElem? ez), hn, fun p H2 s2 hp xp => ?_⟩
            have em : rowsM n (zs.take (i + 1)) = rowsM n (zs.take i) ++ rowsL n (cp z) := by rw [take_more ez, rowsM_app, rowsM_one]
            have nDp : D ≠ p := ne_of_none x' hp
            refine ⟨p, rfl, ⟨_, SqL.of xp⟩, ?_⟩
            refine lcin_itE (walk_list (K := K) (a := p) (xs := tx (rowsL n (cp z)))) (fun j H3 => Same H H3 ∧ H3 p = some (.lst (tx (rowsL n (cp z)))) ∧ H3 D = some (.lst (tx (rowsM n (zs.take i) ++ (rowsL n (cp z)).take j)))) ⟨s'.trans s2, xp, ?_⟩ (fun j H3 _ h => SqL.of h.2.1) [some (.ref a), some (.int (n : Int)), some (.str z), none] rfl ?_ ?_
            · rw [List.take_zero, List.append_nil]
              exact s2 _ _ x'
            · rintro j y H3 H4 hj ⟨s3, xp3, x3⟩ ⟨rfl, hy⟩
              obtain ⟨u, eu, rfl⟩ := tx_at hy
              refine ⟨rfl, ?_⟩
              refine ⟨_, rfl, _, x3, ?_, fun b o e => ?_, ?_, ?_⟩
              · have h1 := few (i + 1)
                rw [em, List.length_append] at h1
                have h2 : (zs.take (i + 1)).length ≤ 100 := by rw [List.length_take]; omega
                rw [tx_len, List.length_append, List.length_take, sizeLine_eq]
                omega
              · rw [upd_ne (ne_of_none e hD)]
                exact s3 _ _ e
              · rw [upd_ne nDp.symm]
                exact xp3
              · rw [upd_same, take_more eu, ← List.append_assoc, tx_app (rowsM n (zs.take i) ++ (rowsL n (cp z)).take j) [u]] <;> rfl
            · rintro H3 ⟨s3, xp3, x3⟩
              rw [tx_len, List.take_length, ← em] at x3
              exact ⟨s3, x3⟩)
          (fun H' ⟨s', x'⟩ => by
            rw [List.length_map, List.take_length] at x'
            exact q D H' s' hD x')
      rcases ha with ha | ha
      · refine ⟨_, rfl, a, rfl, .inl ⟨⟨_, ha⟩, fun D hD => ?_⟩⟩
        exact go (walk_list (K := K) (a := a)) (fun H' s => Same.seq s ha) D hD
      · refine ⟨_, rfl, a, rfl, .inr ⟨⟨_, ha⟩, fun D hD => ?_⟩⟩
        exact go (walk_tup (K := K) (a := a)) (fun H' s => sqT_same s ha) D hD

/-! ### is_name -/
def spName (P' : Addr) : Sp := fun vs H Q _ => ∃ v, vs = [v] ∧ Th H v ∧ (∀ z, v = .str z → z.length ≤ sizeLine) ∧ TabG H P' ∧ ∀ H2, Tabbed P' H H2 → Q (.bl (nameV v)) H2
theorem ok_name {fd : FuncData} {P' : Addr} (F : FnP K "is_name" sis_name (He.fAd K ("is_name", none)) fd) (T : Txt mg) (B : TabB base mg (He.codeOf K ("is_name", none)) P') {t1 t2 t3 : Tok}
    (g1 : mg "LETTERS" = some (.str LETS t1)) (g2 : mg "FIGURES" = some (.str FIGS t2)) (g3 : mg "LONGEST_NAME" = some (.int 8 t3)) :
    FnOk P w K mg base CX0 1 (He.fAd K ("is_name", none)) fd ["thing"] (spName P') := by
  refine okCN F scis_name (fun vs H Q E h => ?_) (fun cdv A outer s H vs Q E hc hr h => ?_)
  · obtain ⟨v, rfl, _⟩ := h
    rfl
  · obtain ⟨v, rfl, hT, hz, hG, q⟩ := h
    subst hc
    refine ⟨_, (pss_cons (ps_if (PW.pt (pw_or (pt_not (pt_val (pe_callB call_isi (by rfl) T.m_isinstance (by decide +kernel) (pa_cons (pv 0) (pa_cons (pe_bltn (v := .ty "str") (u := .type "str") rfl T.m_str (by decide +kernel) rfl) pa_nil))))) (pw_or1 (pt_not (pt_chain op_le op_le pe_int (pe_callB call_len_str (by rfl) T.m_len (by decide +kernel) (pa_cons (pv 0) pa_nil)) (pe_glob (v := .int 8) rfl g3 ⟨_, rfl⟩)))))) (pss_one (ps_ret pe_bl)) pss_nil)
      (pss_one (ps_ret (pe_and (pe_cmpR op_in_sign (pe_ix ix_str (pv 0) pe_int (fun _ _ => rfl)) (pe_glob (v := .str LETS) rfl g1 ⟨_, rfl⟩) rfl) (pe_one (pe_allG hr rfl T.m_all B rfl (gs_plain rfl rfl rfl rfl (by decide +kernel)) (pv 0) (elt_or (elt_inG rfl rfl rfl g1) (elt_inG rfl rfl rfl g2)))))))), ?_⟩
    obtain ⟨t, ty, kt⟩ := hT.str_ (K := K)
    refine ⟨_, rfl, v, .ty "str", t, .type "str", isStr v, rfl, .ty "str", ty, kt, _, rfl, ?_⟩
    have same : Tabbed P' H H := ⟨hG, fun _ _ => rfl⟩
    cases hs : isStr v with
    | false =>
      have q1 := q H same
      rw [nameV_no hs] at q1
      exact iteT (iteT q1)
    | true =>
      obtain ⟨z, rfl⟩ : ∃ z, v = .str z := by cases v <;> first | exact ⟨_, rfl⟩ | cases hs
      refine iteF ?_
      refine ⟨_, rfl, _, rfl, hz z rfl, _, _, rfl, rfl, _, rfl, ?_⟩
      have nb : nameV (.str z) = (decide (1 ≤ (z.length : Int)) && (decide ((z.length : Int) ≤ 8) && ((match z.cps.toList with
        | [] => false
        | c :: _ => isLet c) && z.cps.toList.all fun c => isLet c || isFig c))) := rfl
      rw [nb] at q
      refine iteB (fun c1 => ?_) fun c1 => ?_
      · obtain ⟨c, r, ec⟩ := head_of (of_decide_eq_true c1)
        rw [c1, ec] at q
        refine ⟨_, _, rfl, rfl, _, rfl, iteNb (fun c2 => ?_) fun c2 => ?_⟩
        · rw [c2] at q
          exact q H same
        · rw [c2] at q
          refine ⟨_, rfl, z, 0, c, rfl, rfl, hz z rfl, at_any (xs := z.cps.toList) (v := c) (j := 0) rfl (by rw [ec]; rfl), c, LETS, rfl, rfl, _, rfl, iteB (fun c3 => ?_) fun c3 => ?_⟩
          · refine ⟨_, rfl, z, rfl, hG, fun H2 h2 => ?_⟩
            have q2 : Q (.bl (isLet c && (c :: r).all fun c => isLet c || isFig c)) H2 := q H2 h2
            rw [show isLet c = true from c3] at q2
            rw [ec]
            exact q2
          · have q2 : Q (.bl (isLet c && (c :: r).all fun c => isLet c || isFig c)) H := q H same
            rw [show isLet c = false from c3] at q2
            exact q2
      · rw [c1] at q
        exact ⟨_, rfl, iteT (q H same)⟩

/-! ### kinds -/
theorem ok_oneof {f : Addr} {fd : FuncData} (F : FnP K "is_one_of" sis_one_of f fd) (T : Txt mg) : FnOk P w K mg base CX0 1 f fd ["thing", "words"] (spOneOf K) := by
  refine okN F scis_one_of (fun vs H Q E h => ?_) (fun cdv A outer s H vs Q E hr h => ?_)
  · obtain ⟨v, a, xs, rfl, _⟩ := h
    rfl
  · obtain ⟨v, a, xs, rfl, hT, ha, hf, q⟩ := h
    refine ⟨_, (pss_one (ps_ret (pe_and (pe_callB call_isi (by rfl) T.m_isinstance (by decide +kernel) (pa_cons (pv 0) (pa_cons (pe_bltn (v := .ty "str") (u := .type "str") rfl T.m_str (by decide +kernel) rfl) pa_nil))) (pe_one (pe_cmpR op_in_seq (pv 0) (pv 1) rfl))))), ?_⟩
    obtain ⟨t, ty, kt⟩ := hT.str_ (K := K)
    refine ⟨_, rfl, v, .ty "str", t, .type "str", isStr v, rfl, .ty "str", ty, kt, _, rfl, ?_⟩
    cases hs : isStr v with
    | false =>
      rw [hs] at q
      exact q
    | true =>
      obtain ⟨z, rfl⟩ : ∃ z, v = .str z := by cases v <;> first | exact ⟨_, rfl⟩ | cases hs
      refine iteT ?_
      exact ⟨_, rfl, _, rfl, _, xs, rfl, .inr ha, rfl, hf, q⟩
theorem ok_trait {f : Addr} {fd : FuncData} (F : FnP K "is_trait" sis_trait f fd) (gT : mg "TRAITS" = some (.ref (He.ga K "TRAITS"))) (tT : ∀ H, SqT K H (He.ga K "TRAITS") TR) (D_is_one_of : Dn P w K mg base 1 "is_one_of" ["thing", "words"] (spOneOf K)) : FnOk P w K mg base CX0 2 f fd ["thing"] spTrait := by
  refine okN F scis_trait (fun vs H Q E h => ?_) (fun cdv A outer s H vs Q E hr h => ?_)
  · obtain ⟨v, rfl, _⟩ := h
    rfl
  · obtain ⟨v, rfl, hT, q⟩ := h
    refine ⟨_, (pss_one (ps_ret (pe_dn D_is_one_of (hr.mono (by decide)) rfl (pa_cons (pv 0) (pa_cons (pe_glob (v := .ref (He.ga K "TRAITS")) rfl gT rfl) pa_nil))))), ?_⟩
    refine ⟨_, rfl, v, _, TR, rfl, hT, tT H, flat_strs TRS, ?_⟩
    cases hs : isStr v with
    | false =>
      rw [traitV_no hs] at q
      exact q
    | true =>
      obtain ⟨z, rfl⟩ : ∃ z, v = .str z := by cases v <;> first | exact ⟨_, rfl⟩ | cases hs
      exact q

/-! ### worths -/
def spWithin : Sp := fun vs H Q _ => ∃ (v : V) (lo hi : Int), vs = [v, .int lo, .int hi] ∧ Th H v ∧ Q (.bl (withB lo hi v)) H
theorem ok_within {f : Addr} {fd : FuncData} (F : FnP K "is_whole_within" sis_whole_within f fd) (T : Txt mg) (D_is_whole : Dn P w K mg base 1 "is_whole" ["thing"] spWhole) : FnOk P w K mg base CX0 2 f fd ["thing", "low", "high"] spWithin := by
  refine okN F scis_whole_within (fun vs H Q E h => ?_) (fun cdv A outer s H vs Q E hr h => ?_)
  · obtain ⟨v, lo, hi, rfl, _⟩ := h
    rfl
  · obtain ⟨v, lo, hi, rfl, hT, q⟩ := h
    refine ⟨_, (pss_one (ps_ret (pe_and (pe_dn D_is_whole (hr.mono (by decide)) rfl (pa_cons (pv 0) pa_nil)) (pe_one (pe_chain op_le op_le (pv 1) (pv 0) (pv 2)))))), ?_⟩
    refine ⟨_, rfl, v, rfl, hT, _, rfl, ?_⟩
    cases hw : wholeV v with
    | false =>
      have e : withB lo hi v = false := by cases v <;> first | rfl | cases hw
      rw [e] at q
      exact q
    | true =>
      obtain ⟨i, rfl⟩ : ∃ i, v = .int i := by cases v <;> first | exact ⟨_, rfl⟩ | cases hw
      refine iteT ?_
      have nb : withB lo hi (.int i) = (decide (lo ≤ i) && decide (i ≤ hi)) := rfl
      rw [nb] at q
      refine ⟨_, rfl, _, rfl, _, _, rfl, rfl, _, rfl, iteB (fun h3 => ?_) fun h3 => ?_⟩
      · rw [h3] at q
        exact ⟨_, rfl, _, _, rfl, rfl, q⟩
      · rw [h3] at q
        exact q
def spWorth (K : PySem.W.Frag) (P' : Addr) : Sp := fun vs H Q E => ∃ v x, vs = [v, x] ∧ Ok1 H v ∧ Ok1 H x ∧ TabG H P' ∧ (traitV v = false → E (.ref (He.ga K "NoTrait")) none H) ∧ (∀ z, v = .str z → z ∈ TRS → ∀ H2, Tabbed P' H H2 → Q (.bl (worthB z x)) H2)
theorem ok_worth {f : Addr} {fd : FuncData} {P' : Addr} (F : FnP K "is_worth" sis_worth f fd) (T : Txt mg) (N_NoTrait : Er K mg "NoTrait") (B : BN K w) (gB : mg "BOUNDS" = some (.ref (He.ga K "BOUNDS")))
    (D_is_trait : Dn P w K mg base 2 "is_trait" ["thing"] spTrait) (D_is_name : Dn P w K mg base 1 "is_name" ["thing"] (spName P')) (D_is_whole_within : Dn P w K mg base 2 "is_whole_within" ["thing", "low", "high"] spWithin) :
    FnOk P w K mg base (L2.CX P w) 3 f fd ["trait", "thing"] (spWorth K P') := by
  refine okS F scis_worth (fun vs H Q E h => ?_) (fun cdv A outer s H vs Q E hr h => ?_)
  · obtain ⟨v, x, rfl, _⟩ := h
    rfl
  · obtain ⟨v, x, rfl, hv, hx, hG, ko, q⟩ := h
    refine ⟨_, (pss_cons (ps_if (pt_not (pt_val (pe_dn D_is_trait (hr.mono (by decide)) rfl (pa_cons (pv 0) pa_nil)))) (pss_one (ps_raise rfl (takes_of rfl rfl rfl rfl) (pmk_own PySem.F.excBase_ValueError N_NoTrait.x N_NoTrait.g N_NoTrait.k (raises_own N_NoTrait.b N_NoTrait.t) rfl))) pss_nil)
      (pss_cons (ps_if (pt_cmpR op_eq (pv 0) pe_str (nomark _)) (pss_one (ps_ret (pe_dn D_is_name (hr.mono (by decide)) rfl (pa_cons (pv 1) pa_nil)))) pss_nil)
      (pss_cons (ps_asg (pe_ix ix_kdict (pe_glob (v := .ref (He.ga K "BOUNDS")) rfl gB rfl) (pv 0) (fun _ _ => rfl)) (pg_tup rfl (pgs_cons (pg_name (i := 2) scis_worth.nd rfl (Or.inl rfl)) (pgs_cons (pg_name (i := 3) scis_worth.nd rfl (Or.inl rfl)) pgs_nil))))
      (pss_one (ps_ret (pe_dn D_is_whole_within (hr.mono (by decide)) rfl (pa_cons (pv 1) (pa_cons (pv 2) (pa_cons (pv 3) pa_nil))))))))), ?_⟩
    refine ⟨_, rfl, v, rfl, hv.1, _, rfl, iteNb (fun h1 => ?_) fun h1 => ?_⟩
    · exact ko h1
    · obtain ⟨z, rfl, mz⟩ := trait_mem h1
      have q := q z rfl mz
      refine ⟨_, rfl, rfl, _, rfl, iteB (fun h2 => ?_) fun h2 => ?_⟩
      · have e2 : z = "ink" := V.str.inj (of_decide_eq_true h2)
        refine ⟨_, rfl, x, rfl, hx.1, hx.2, hG, fun H2 h => ?_⟩
        have q := q H2 h
        rw [show worthB z x = nameV x from if_pos e2] at q
        exact q
      · have n2 : z ≠ "ink" := fun e => of_decide_eq_false h2 (by rw [e])
        have q := q H ⟨hG, fun _ _ => rfl⟩
        rw [show worthB z x = betw (bnd z) x from if_neg n2] at q
        obtain ⟨a, kd, sq⟩ := B.bd z mz n2
        refine ⟨_, rfl, _, z, _, rfl, rfl, kd, a, _, rfl, sq H, rfl, _, _, rfl, _, _, rfl, rfl, ?_⟩
        refine ⟨_, rfl, _, rfl, _, rfl, x, _, _, rfl, hx.1, ?_⟩
        have e : withB (bnd z).1 (bnd z).2 x = betw (bnd z) x := by cases x <;> rfl
        rw [e]
        exact q

/-! ### what fits -/
def fitB (zs : List Str) (x y : Nat) (s : Nat) : Bool := decide (1 ≤ x / s) && decide ((rowsM (x / s) zs).length ≤ y / s)
def great (f : Nat → Bool) : Nat → Option Nat
  | 0 => none
  | t + 1 => if f (t + 1) = true then some (t + 1) else great f t
def optV : Option Nat → V
  | none => .non
  | some t => .int (t : Int)
theorem idiv (a b : Nat) : (a : Int) / (b : Int) = ((a / b : Nat) : Int) := (Int.natCast_ediv a b).symm
def spFits (K : PySem.W.Frag) : Sp := fun vs H Q _ => ∃ (a : Addr) (x y s : Nat) (zs : List Str), vs = [.ref a, .int (x : Int), .int (y : Int), .int (s : Int)] ∧ SqA K H a (zs.map V.str) ∧ zs.length ≤ 100 ∧ (∀ z ∈ zs, z.length ≤ 1000) ∧ 1 ≤ s ∧ s ≤ 1000 ∧ ∀ H', Same H H' → Q (.bl (fitB zs x y s)) H'
theorem ok_fits {f : Addr} {fd : FuncData} (F : FnP K "fits" sfits f fd) (T : Txt mg) (D_rows_of : DnS P w K mg base 3 "rows_of" ["lines", "wide"] (spRowsOf K)) : FnOk P w K mg base (L2.CX P w) 4 f fd ["lines", "wide", "high", "size"] (spFits K) := by
  refine okS F scfits (fun vs H Q E h => ?_) (fun cdv A outer s H vs Q E hr h => ?_)
  · obtain ⟨a, x, y, s, zs, rfl, _⟩ := h
    rfl
  · obtain ⟨a, x, y, s, zs, rfl, ha, lz, hz, hs, hs2, q⟩ := h
    refine ⟨_, (pss_cons (ps_set (i := 4) scfits.nd rfl (Or.inl rfl) (pe_op op_fdiv (pv 1) (pv 3)))
      (pss_one (ps_ret (pe_and (pe_cmpR op_ge (pv 4) pe_int (nomark _)) (pe_one (pe_cmpR op_le (pe_callB call_len_seq (by rfl) T.m_len (by decide +kernel) (pa_cons (pe_dnS D_rows_of (hr.mono (by decide)) rfl (fun σ => passAt (takes_of rfl rfl rfl rfl) σ) (pa_cons (pv 0) (pa_cons (pv 4) pa_nil))) pa_nil)) (pe_op op_fdiv (pv 2) (pv 3)) (nomark _))))))), ?_⟩
    have cd : CDiv (x : Int) (s : Int) := ⟨by omega, by omega⟩
    have cd2 : CDiv (y : Int) (s : Int) := ⟨by omega, by omega⟩
    refine ⟨_, rfl, _, rfl, _, _, rfl, rfl, cd, ?_⟩
    refine ⟨_, rfl, _, _, rfl, rfl, _, rfl, ?_⟩
    have q : ∀ H', Same H H' → Q (.bl (decide (1 ≤ x / s) && decide ((rowsM (x / s) zs).length ≤ y / s))) H' := q
    rw [show decide ((x : Int) / (s : Int) ≥ 1) = decide (1 ≤ x / s) from decide_eq_decide.mpr (by rw [idiv]; omega)]
    refine iteB (fun h1 => ?_) fun h1 => ?_
    · rw [h1] at q
      have h1 := of_decide_eq_true h1
      refine ⟨_, rfl, _, rfl, a, .int ((x : Int) / (s : Int)), zs, rfl, ha, ⟨.int _, fun _ e => nomatch e⟩, lz, hz, fun e => ?_, fun n en hn R H2 s2 hR xR => ?_⟩
      · rw [idiv, show fromB 1 (.int ((x / s : Nat) : Int)) = true from decide_eq_true (by omega)] at e
        cases e
      obtain rfl : n = x / s := by
        have e := V.int.inj en
        rw [idiv] at e
        omega
      refine ⟨R, _, rfl, .inl (SqL.of xR), _, rfl, _, rfl, _, _, rfl, rfl, cd2, _, _, rfl, rfl, ?_⟩
      have q := q H2 s2
      rw [tx_len]
      rw [show decide ((rowsM (x / s) zs).length ≤ y / s) = decide (((rowsM (x / s) zs).length : Int) ≤ (y : Int) / (s : Int)) from decide_eq_decide.mpr (by rw [idiv]; omega)] at q
      exact q
    · rw [h1] at q
      exact q H (Same.refl _)
def spGreat (K : PySem.W.Frag) : Sp := fun vs H Q _ => ∃ (a : Addr) (x y s : Nat) (zs : List Str), vs = [.ref a, .int (x : Int), .int (y : Int), .int (s : Int)] ∧ SqA K H a (zs.map V.str) ∧ zs.length ≤ 100 ∧ (∀ z ∈ zs, z.length ≤ 1000) ∧ s ≤ 1000 ∧ ∀ H', Same H H' → Q (optV (great (fitB zs x y) s)) H'
theorem great_more {f : Nat → Bool} {s i : Nat} (hi : i < s) (h : f (s - i) = false) : great f (s - i) = great f (s - (i + 1)) := by
  obtain ⟨t, et⟩ : ∃ t, s - i = t + 1 := ⟨s - i - 1, by omega⟩
  have e2 : s - (i + 1) = t := by omega
  rw [et] at h ⊢
  rw [e2, great, if_neg (by rw [h]; decide)]
theorem great_here {f : Nat → Bool} {s : Nat} (hs : 1 ≤ s) (h : f s = true) : great f s = some s := by
  cases s with
  | zero => omega
  | succ t => rw [great, if_pos h]
theorem ok_great {f : Addr} {fd : FuncData} (F : FnP K "greatest_size" sgreatest_size f fd) (T : Txt mg) (D_fits : DnS P w K mg base 4 "fits" ["lines", "wide", "high", "size"] (spFits K)) : FnOk P w K mg base (L2.CX P w) 5 f fd ["lines", "wide", "high", "size"] (spGreat K) := by
  refine okS F scgreatest_size (fun vs H Q E h => ?_) (fun cdv A outer s H vs Q E hr h => ?_)
  · obtain ⟨a, x, y, s, zs, rfl, _⟩ := h
    rfl
  · obtain ⟨a, x, y, s, zs, rfl, ha, lz, hz, hs, q⟩ := h
    refine ⟨_, (pss_cons (ps_for (passes_of rfl) rfl (pi_range3 rfl T.m_range (pa_cons (pv 3) (pa_cons pe_int (pa_cons (pe_un un_neg pe_int) pa_nil)))) (pg_name (i := 4) scgreatest_size.nd rfl (Or.inl rfl)) (pss_one (ps_if (pt_val (pe_dnS D_fits (hr.mono (by decide)) rfl (fun σ => passAt (takes_of rfl rfl rfl rfl) σ) (pa_cons (pv 0) (pa_cons (pv 1) (pa_cons (pv 2) (pa_cons (pv 4) pa_nil)))))) (pss_one (ps_ret (pv 4))) pss_nil)))
      (pss_one (ps_ret pe_non))), ?_⟩
    refine ⟨_, rfl, _, rfl, _, _, _, _, rfl, RgC.neg (by omega) (by omega) (by decide) (by decide), ?_⟩
    have en : ((s : Int) - 0).toNat = s := by omega
    rw [en]
    refine for_rangeC (fun i σ H1 => ∃ v4 : Option V, σ = [some (.ref a), some (.int (x : Int)), some (.int (y : Int)), some (.int (s : Int)), v4] ∧ Same H H1 ∧ great (fitB zs x y) s = great (fitB zs x y) (s - i)) ?_ ?_ ?_
    · exact ⟨none, rfl, Same.refl _, rfl⟩
    · rintro i σ H1 hi ⟨v4, rfl, s1, e1⟩
      have ev : (s : Int) + ((i : Nat) : Int) * -1 = ((s - i : Nat) : Int) := by omega
      refine ⟨_, rfl, _, rfl, _, rfl, _, rfl, a, x, y, s - i, zs, by rw [← ev] <;> rfl, sqA_same ha s1, lz, hz, by omega, by omega, fun H2 s2 => ⟨_, rfl, iteB (fun hb => ?_) fun hb => ?_⟩⟩
      · refine ⟨_, rfl, ?_⟩
        have q := q H2 (s1.trans s2)
        rw [e1, great_here (by omega) hb] at q
        rw [ev]
        exact q
      · exact ⟨_, rfl, s1.trans s2, e1.trans (great_more hi hb)⟩
    · rintro σ H1 ⟨v4, rfl, s1, e1⟩
      have q := q H1 s1
      rw [e1, Nat.sub_self] at q
      exact q
def sizesB (x y s : V) : Bool := worthB "wide" x && (worthB "high" y && worthB "size" s)
theorem sizes_at {x y s : V} (h : sizesB x y s = true) : ∃ x' y' s' : Nat, x = .int (x' : Int) ∧ y = .int (y' : Int) ∧ s = .int (s' : Int) ∧ 1 ≤ x' ∧ x' ≤ 999 ∧ 1 ≤ y' ∧ y' ≤ 999 ∧ 1 ≤ s' ∧ s' ≤ 99 := by
  unfold sizesB at h
  simp only [Bool.and_eq_true] at h
  obtain ⟨h1, h2, h3⟩ := h
  have e1 : worthB "wide" x = betw (1, 999) x := rfl
  have e2 : worthB "high" y = betw (1, 999) y := rfl
  have e3 : worthB "size" s = betw (1, 99) s := rfl
  have get : ∀ {hi : Int} {v : V}, betw (1, hi) v = true → ∃ n : Nat, v = .int (n : Int) ∧ 1 ≤ n ∧ (n : Int) ≤ hi := fun {hi v} h => by
    cases v with
    | int i =>
      have h : (decide ((1 : Int) ≤ i) && decide (i ≤ hi)) = true := h
      simp only [Bool.and_eq_true, decide_eq_true_eq] at h
      exact ⟨i.toNat, by rw [Int.toNat_of_nonneg (by omega)], by omega, by omega⟩
    | _ => cases h
  rw [e1] at h1
  rw [e2] at h2
  rw [e3] at h3
  obtain ⟨a, ea, a1, a2⟩ := get h1
  obtain ⟨b, eb, b1, b2⟩ := get h2
  obtain ⟨c, ec, c1, c2⟩ := get h3
  exact ⟨a, b, c, ea, eb, ec, a1, by omega, b1, by omega, c1, by omega⟩
def spShrunk (K : PySem.W.Frag) (P' : Addr) : Sp := fun vs H Q E => ∃ (a : Addr) (x y s : V) (zs : List Str), vs = [.ref a, x, y, s] ∧ SqA K H a (zs.map V.str) ∧ Ok1 H x ∧ Ok1 H y ∧ Ok1 H s ∧ TabG H P' ∧ zs.length ≤ 100 ∧ (∀ z ∈ zs, z.length ≤ 1000) ∧
  (sizesB x y s = false → ∀ H', Tk P' H H' → E (.ref (He.ga K "NoRoom")) none H') ∧ (∀ x' y' s' : Nat, x = .int (x' : Int) → y = .int (y' : Int) → s = .int (s' : Int) → sizesB x y s = true → ∀ H', Tk P' H H' → Q (optV (great (fitB zs x' y') s')) H')
theorem ok_shrunk {f : Addr} {fd : FuncData} {P' : Addr} (F : FnP K "shrunk_to" sshrunk_to f fd) (T : Txt mg) (N_NoRoom : Er K mg "NoRoom") (D_is_worth : DnS P w K mg base 3 "is_worth" ["trait", "thing"] (spWorth K P')) (D_greatest_size : DnS P w K mg base 5 "greatest_size" ["lines", "wide", "high", "size"] (spGreat K)) :
    FnOk P w K mg base (L2.CX P w) 6 f fd ["lines", "wide", "high", "size"] (spShrunk K P') := by
  refine okS F scshrunk_to (fun vs H Q E h => ?_) (fun cdv A outer s H vs Q E hr h => ?_)
  · obtain ⟨a, x, y, s, zs, rfl, _⟩ := h
    rfl
  · obtain ⟨a, x, y, s, zs, rfl, ha, hx, hy, hs, hG, lz, hz, ko, q⟩ := h
    refine ⟨_, (pss_cons (ps_if (PW.pt (pw_or (pt_not (pt_val (pe_dnS D_is_worth (hr.mono (by decide)) rfl (fun σ => passAt (takes_of rfl rfl rfl rfl) σ) (pa_cons pe_str (pa_cons (pv 1) pa_nil))))) (pw_or (pt_not (pt_val (pe_dnS D_is_worth (hr.mono (by decide)) rfl (fun σ => passAt (takes_of rfl rfl rfl rfl) σ) (pa_cons pe_str (pa_cons (pv 2) pa_nil))))) (pw_or1 (pt_not (pt_val (pe_dnS D_is_worth (hr.mono (by decide)) rfl (fun σ => passAt (takes_of rfl rfl rfl rfl) σ) (pa_cons pe_str (pa_cons (pv 3) pa_nil))))))))) (pss_one (ps_raise rfl (takes_of rfl rfl rfl rfl) (pmk_own PySem.F.excBase_ValueError N_NoRoom.x N_NoRoom.g N_NoRoom.k (raises_own N_NoRoom.b N_NoRoom.t) rfl))) pss_nil)
      (pss_one (ps_ret (pe_dnS D_greatest_size (hr.mono (by decide)) rfl (fun σ => passAt (takes_of rfl rfl rfl rfl) σ) (pa_cons (pv 0) (pa_cons (pv 1) (pa_cons (pv 2) (pa_cons (pv 3) pa_nil)))))))), ?_⟩
    have mt : ∀ {t : Str}, t ∈ TRS → t.length ≤ sizeLine := fun {t} h => by
      simp only [TRS, List.mem_cons, List.not_mem_nil, or_false] at h
      rcases h with rfl | rfl | rfl | rfl | rfl | rfl <;> decide +kernel
    have m1 : ("wide" : Str) ∈ TRS := by decide +kernel
    have m2 : ("high" : Str) ∈ TRS := by decide +kernel
    have m3 : ("size" : Str) ∈ TRS := by decide +kernel
    have st : ∀ {H : Hp} {H2 : Hp}, Tabbed P' H H2 → Tk P' H H2 := fun h => Tk.tabbed h
    have sq : ∀ {H2 : Hp}, Tk P' H H2 → SqA K H2 a (zs.map V.str) := fun tk => ha.imp (fun h => sqL_tk h hG tk) fun h => KT.tk hG tk _ _ h
    refine ⟨_, rfl, .str "wide", x, rfl, ok_str (mt m1), hx, hG, fun e => ?_, fun z ez mz H1 t1 => ?_⟩
    · rw [trait_true m1] at e
      cases e
    cases ez
    have k1 := st t1
    refine ⟨_, rfl, iteNb (fun b1 => ?_) fun b1 => ?_⟩
    · have ee := ko (by unfold sizesB; rw [b1, Bool.false_and]) _ k1
      first
        | exact ee
        | exact iteT ee
        | exact iteT (iteT ee)
    refine ⟨_, rfl, .str "high", y, rfl, ok_str (mt m2), Ok1.tk hy hG k1, k1.1, fun e => ?_, fun z ez mz H2 t2 => ?_⟩
    · rw [trait_true m2] at e
      cases e
    cases ez
    have k2 := k1.trans (st t2)
    refine ⟨_, rfl, iteNb (fun b2 => ?_) fun b2 => ?_⟩
    · have ee := ko (by unfold sizesB; rw [b2, Bool.false_and, Bool.and_false]) _ k2
      first
        | exact ee
        | exact iteT ee
        | exact iteT (iteT ee)
    refine ⟨_, rfl, .str "size", s, rfl, ok_str (mt m3), Ok1.tk hs hG k2, k2.1, fun e => ?_, fun z ez mz H3 t3 => ?_⟩
    · rw [trait_true m3] at e
      cases e
    cases ez
    have k3 := k2.trans (st t3)
    refine ⟨_, rfl, iteNb (fun b3 => ?_) fun b3 => ?_⟩
    · have ee := ko (by unfold sizesB; rw [b3, Bool.and_false, Bool.and_false]) _ k3
      first
        | exact ee
        | exact iteT ee
        | exact iteT (iteT ee)
    have good : sizesB x y s = true := by
      unfold sizesB
      rw [b1, b2, b3] <;> rfl
    obtain ⟨x', y', s', rfl, rfl, rfl, hx1, hx2, hy1, hy2, hs1, hs2⟩ := sizes_at good
    refine ⟨_, rfl, _, rfl, _, rfl, _, rfl, a, x', y', s', zs, rfl, sq k3, lz, hz, by omega, fun H4 s4 => ?_⟩
    exact q x' y' s' rfl rfl rfl good H4 (k3.trans (Tk.same k3.1 s4))

end
end K34

set_option Elab.async false
set_option linter.all false
set_option maxRecDepth 100000
set_option maxHeartbeats 2000000
namespace K34
open PySem PySem.Spec PyProof.Rows L2 GxR Gx Gd Gn Gm Gc Gk Gs Gv Gw Gt Gb
abbrev slaw_pen : Stmt := top 47
theorem sclaw_pen : FnScope ["script"] ["script"] (defScope slaw_pen) := ⟨rfl, rfl, rfl, by decide +kernel, rfl, by decide +kernel, by decide +kernel⟩
abbrev slaw_draw : Stmt := top 48
theorem sclaw_draw : FnScope ["pen", "many", "found", "at", "cell", "number"] ["pen", "many"] (defScope slaw_draw) := ⟨rfl, rfl, rfl, by decide +kernel, rfl, by decide +kernel, by decide +kernel⟩
abbrev slaw_line : Stmt := top 49
theorem sclaw_line : FnScope ["pen", "words", "line", "k"] ["pen"] (defScope slaw_line) := ⟨rfl, rfl, rfl, by decide +kernel, rfl, by decide +kernel, by decide +kernel⟩
abbrev slaw_lines : Stmt := top 50
theorem sclaw_lines : FnScope ["pen", "long", "many", "k"] ["pen"] (defScope slaw_lines) := ⟨rfl, rfl, rfl, by decide +kernel, rfl, by decide +kernel, by decide +kernel⟩
section
variable {P : Program} {w : World} {K : PySem.W.Frag} {mg : Str → Option Value} {base : Heap}
theorem ok_draw {f : Addr} {fd : FuncData} (F : FnP K "_law_draw" slaw_draw f fd) (T : Txt mg) : FnOk P w K mg base CX0 1 f fd ["pen", "many"] spDraw := by
  refine okN F sclaw_draw (fun vs H Q E h => ?_) (fun cdv A outer s H vs Q E hr h => ?_)
  · obtain ⟨p, L, ns, n, many, rfl, _⟩ := h
    rfl
  · obtain ⟨p, L, ns, n, many, rfl, hP, h0, hm, hn, k⟩ := h
    refine ⟨_, (pss_cons (ps_if (pt_cmpR op_gt (pe_ix ix_list (pv 0) pe_int (fun _ _ => rfl)) pe_int (nomark _)) (pss_cons (ps_set (i := 2) sclaw_draw.nd rfl (Or.inl rfl) (pe_op op_mod (pe_ix ix_list (pv 0) pe_int (fun _ _ => rfl)) (pv 1)))
      (pss_cons (ps_asg (pe_op op_fdiv (pe_ix ix_list (pv 0) pe_int (fun _ _ => rfl)) (pv 1)) (pg_sub (pv 0) pe_int set_list))
      (pss_one (ps_ret (pv 2))))) pss_nil)
      (pss_cons (ps_set (i := 3) sclaw_draw.nd rfl (Or.inl rfl) (pe_ix ix_list (pv 0) pe_int (fun _ _ => rfl)))
      (pss_cons (ps_asg (pe_op op_add (pv 3) pe_int) (pg_sub (pv 0) pe_int set_list))
      (pss_cons (ps_set (i := 4) sclaw_draw.nd rfl (Or.inl rfl) pe_int)
      (pss_cons (ps_if (pt_cmpR op_gt (pe_callB call_len_seq (by rfl) T.m_len (by decide +kernel) (pa_cons (pe_ix ix_list (pv 0) pe_int (fun _ _ => rfl)) pa_nil)) pe_int (nomark _)) (pss_one (ps_set (i := 4) sclaw_draw.nd rfl (Or.inl rfl) (pe_ix ix_list (pe_ix ix_list (pv 0) pe_int (fun _ _ => rfl)) (pe_op op_mod (pv 3) (pe_callB call_len_seq (by rfl) T.m_len (by decide +kernel) (pa_cons (pe_ix ix_list (pv 0) pe_int (fun _ _ => rfl)) pa_nil))) (fun _ _ => rfl)))) pss_nil)
      (pss_cons (ps_if (PW.pt (pw_and (pt_cmpR op_lt (pv 3) (pe_callB call_len_seq (by rfl) T.m_len (by decide +kernel) (pa_cons (pe_ix ix_list (pv 0) pe_int (fun _ _ => rfl)) pa_nil)) (nomark _)) (pw_and1 (pt_cmpR op_ge (pv 4) (pe_op op_pow pe_int pe_int) (nomark _))))) (pss_cons (ps_asg (pe_op op_fdiv (pv 4) (pv 1)) (pg_sub (pv 0) pe_int set_list))
      (pss_one (ps_ret (pe_op op_mod (pv 4) (pv 1))))) pss_nil)
      (pss_cons (ps_set (i := 5) sclaw_draw.nd rfl (Or.inl rfl) (pe_op op_mod (pe_op op_mul (pe_op op_add (pe_op op_mod (pv 4) pe_int) pe_int) (pe_op op_add (pe_op op_add (pe_op op_mul (pv 3) (pv 3)) (pe_op op_mul pe_int (pv 3))) pe_int)) pe_int))
      (pss_one (ps_ret (pe_op op_mod (pe_op op_fdiv (pe_op op_mod (pe_op op_mul (pe_op op_mod (pe_op op_add (pe_op op_pow (pv 5) pe_int) (pe_op op_mul pe_int (pv 3))) pe_int) pe_int) pe_int) pe_int) (pv 1))))))))))), ?_⟩
    obtain ⟨a, r, hp, ha, han⟩ := hP.at_
    refine ⟨_, rfl, p, _, _, _, rfl, rfl, SqL.of hp, at_of (j := 2) rfl rfl, _, _, rfl, rfl, _, rfl, ite2 (fun hc => ?_) fun hc => ?_⟩
    · refine ⟨_, rfl, p, _, _, _, rfl, rfl, SqL.of hp, at_of (j := 2) rfl rfl, _, rfl, _, _, rfl, rfl, h0, ?_⟩
      refine ⟨_, rfl, p, _, _, _, rfl, rfl, SqL.of hp, at_of (j := 2) rfl rfl, _, rfl, _, _, rfl, rfl, ⟨h0, (by omega)⟩, _, rfl, p, _, _, 2, rfl, rfl, hp, rfl, ?_⟩
      refine ⟨_, rfl, k _ _ (Int.emod_nonneg _ (by omega)) (Int.emod_lt_of_pos _ h0) (hP.put ha (by omega)) But.upd⟩
    · -- at = pen[1]; pen[1] = at + 1; cell = 7
      refine ⟨_, rfl, p, _, _, _, rfl, rfl, SqL.of hp, at_of (j := 1) rfl rfl, ?_⟩
      refine ⟨_, rfl, _, _, rfl, rfl, _, rfl, p, _, _, 1, rfl, rfl, hp, rfl, ?_⟩
      have hP1 : Pen (upd H p (.lst [.ref L, .int (a + 1), .int r])) p L ns (n + 1) := hP.put (by omega) (by omega)
      have b1 : But p H (upd H p (.lst [.ref L, .int (a + 1), .int r])) := But.upd
      generalize eH : upd H p (.lst [.ref L, .int (a + 1), .int r]) = H1 at hP1 b1
      have hp1 : H1 p = some (.lst [.ref L, .int (a + 1), .int r]) := by rw [← eH]; exact upd_same
      have hl1 := hP1.ls
      show tSeq _ _ _ _ (upd H p (.lst [.ref L, .int (a + 1), .int r]))
      rw [eH]
      have eL : (ns.map V.int).length = ns.length := List.length_map ..
      apply viaInt
      · intro rest
        -- if len(pen[0]) > 0: cell = pen[0][at % len(pen[0])]
        refine ⟨_, rfl, p, _, _, _, rfl, rfl, SqL.of hp1, at_of (j := 0) rfl rfl, L, _, rfl, .inl (SqL.of hl1), _, _, rfl, rfl, _, rfl, ite2 (fun hc => ?_) fun hc => ?_⟩
        · have hpos : 0 < ns.length := by
            have h1 := of_decide_eq_true hc
            rw [eL] at h1
            omega
          have hlp : (0 : Int) < ((ns.length : Nat) : Int) := by omega
          have hm0 := Int.emod_nonneg a (show ((ns.length : Nat) : Int) ≠ 0 by omega)
          have hm1 := Int.emod_lt_of_pos a hlp
          obtain ⟨j, ej⟩ : ∃ j : Nat, a % ((ns.length : Nat) : Int) = (j : Int) := ⟨_, (Int.toNat_of_nonneg hm0).symm⟩
          have hj : j < ns.length := by
            rw [ej] at hm1
            omega
          refine ⟨_, rfl, p, _, _, _, rfl, rfl, SqL.of hp1, at_of (j := 0) rfl rfl, _, rfl, _, rfl, p, _, _, _, rfl, rfl, SqL.of hp1, at_of (j := 0) rfl rfl, L, _, rfl, .inl (SqL.of hl1), _, _, rfl, rfl, (by rw [eL]; exact hlp), ?_⟩
          obtain ⟨cell, ec⟩ : ∃ z, ns[j]? = some z := ⟨_, List.getElem?_eq_getElem hj⟩
          refine ⟨L, _, _, .int cell, rfl, rfl, SqL.of hl1, at_of (j := j) (by rw [eL]; exact ej) (by rw [List.getElem?_map, ec]; rfl), ?_⟩
          exact rest cell
        · exact rest 7
      · intro cell
        -- if at < len(pen[0]) and cell >= 10 ** 18
        refine ⟨_, rfl, _, rfl, p, _, _, _, rfl, rfl, SqL.of hp1, at_of (j := 0) rfl rfl, L, _, rfl, .inl (SqL.of hl1), _, _, rfl, rfl, _, rfl, ?_⟩
        have c1 : (0 : Int) ≤ cell % 2147483629 := Int.emod_nonneg _ (by decide)
        have c2 : cell % 2147483629 < 2147483629 := Int.emod_lt_of_pos _ (by decide)
        · refine ite2 (fun _ => ?_) fun _ => ?_
          · refine ⟨_, rfl, _, _, rfl, rfl, ⟨by decide, by decide, by decide⟩, _, _, rfl, rfl, _, rfl, ite2 (fun _ => ?_) fun _ => ?_⟩
            · refine ⟨_, rfl, _, rfl, _, _, rfl, rfl, ⟨h0, (by omega)⟩, _, rfl, p, _, _, 2, rfl, rfl, hp1, rfl, ?_⟩
              refine ⟨_, rfl, _, rfl, _, _, rfl, rfl, h0, ?_⟩
              exact k _ _ (Int.emod_nonneg _ (by omega)) (Int.emod_lt_of_pos _ h0) (hP1.put (by omega) (by omega)) (b1.trans But.upd)
            · refine ⟨_, rfl, _, _, rfl, rfl, (by show (0 : Int) < _; decide), _, _, rfl, rfl, _, rfl, _, rfl, _, _, rfl, rfl, .inl ⟨by omega, by omega⟩, _, rfl, _, _, rfl, rfl, .inl ⟨by decide, by decide⟩, _, _, rfl, rfl, _, _, rfl, rfl, _, _, rfl, rfl, .inl ⟨by omega, by omega⟩, _, _, rfl, rfl, (by show (0 : Int) < _; decide), ?_⟩
              generalize eN : (cell % 2147483629 + 11) * (a * a + 5 * a + 3) % 2147483647 = N
              have n1 : (0 : Int) ≤ N := by rw [← eN]; exact Int.emod_nonneg _ (by decide)
              have n2 : N < 2147483647 := by rw [← eN]; exact Int.emod_lt_of_pos _ (by decide)
              refine ⟨_, rfl, _, _, rfl, rfl, ⟨by decide, by decide, by omega⟩, _, rfl, _, _, rfl, rfl, .inl ⟨by decide, by decide⟩, _, _, rfl, rfl, _, _, rfl, rfl, (by show (0 : Int) < _; decide), ?_⟩
              generalize eM : (N ^ (3 : Int).toNat + 69621 * a) % 2147483587 = M
              have m1 : (0 : Int) ≤ M := by rw [← eM]; exact Int.emod_nonneg _ (by decide)
              have m2 : M < 2147483587 := by rw [← eM]; exact Int.emod_lt_of_pos _ (by decide)
              refine ⟨_, _, rfl, rfl, .inl ⟨by omega, by omega⟩, _, _, rfl, rfl, (by show (0 : Int) < _; decide), _, _, rfl, rfl, ⟨by decide, by decide⟩, _, rfl, _, _, rfl, rfl, h0, ?_⟩
              exact k _ _ (Int.emod_nonneg _ (by omega)) (Int.emod_lt_of_pos _ h0) hP1 b1
          · refine iteF ?_
            refine ⟨_, rfl, _, _, rfl, rfl, (by show (0 : Int) < _; decide), _, _, rfl, rfl, _, rfl, _, rfl, _, _, rfl, rfl, .inl ⟨by omega, by omega⟩, _, rfl, _, _, rfl, rfl, .inl ⟨by decide, by decide⟩, _, _, rfl, rfl, _, _, rfl, rfl, _, _, rfl, rfl, .inl ⟨by omega, by omega⟩, _, _, rfl, rfl, (by show (0 : Int) < _; decide), ?_⟩
            generalize eN : (cell % 2147483629 + 11) * (a * a + 5 * a + 3) % 2147483647 = N
            have n1 : (0 : Int) ≤ N := by rw [← eN]; exact Int.emod_nonneg _ (by decide)
            have n2 : N < 2147483647 := by rw [← eN]; exact Int.emod_lt_of_pos _ (by decide)
            refine ⟨_, rfl, _, _, rfl, rfl, ⟨by decide, by decide, by omega⟩, _, rfl, _, _, rfl, rfl, .inl ⟨by decide, by decide⟩, _, _, rfl, rfl, _, _, rfl, rfl, (by show (0 : Int) < _; decide), ?_⟩
            generalize eM : (N ^ (3 : Int).toNat + 69621 * a) % 2147483587 = M
            have m1 : (0 : Int) ≤ M := by rw [← eM]; exact Int.emod_nonneg _ (by decide)
            have m2 : M < 2147483587 := by rw [← eM]; exact Int.emod_lt_of_pos _ (by decide)
            refine ⟨_, _, rfl, rfl, .inl ⟨by omega, by omega⟩, _, _, rfl, rfl, (by show (0 : Int) < _; decide), _, _, rfl, rfl, ⟨by decide, by decide⟩, _, rfl, _, _, rfl, rfl, h0, ?_⟩
            exact k _ _ (Int.emod_nonneg _ (by omega)) (Int.emod_lt_of_pos _ h0) hP1 b1

/-! ### the pen is made -/
def spPen (K : PySem.W.Frag) : Sp := fun vs H Q _ => ∃ (a : Addr) (ns : List Int), vs = [.ref a] ∧ SqL K H a (ns.map V.int) ∧ ns.length ≤ 63 ∧ ∀ (p L : Addr) (H' : Hp), H p = none → H L = none → Pen H' p L ns 0 → Same H H' → Q (.ref p) H'
theorem ok_pen {f : Addr} {fd : FuncData} (F : FnP K "_law_pen" slaw_pen f fd) (T : Txt mg) : FnOk P w K mg base CX0 1 f fd ["script"] (spPen K) := by
  refine okN F sclaw_pen (fun vs H Q E h => ?_) (fun cdv A outer s H vs Q E hr h => ?_)
  · obtain ⟨a, ns, rfl, _⟩ := h
    rfl
  · obtain ⟨a, ns, rfl, hS, hl, q⟩ := h
    refine ⟨_, (pss_one (ps_ret (pe_lst (pa_cons (pe_callTy call_list_of (by rfl) T.m_list (by decide +kernel) (pa_cons (pe_slice sl_list (pv 0) po_none (po_some pe_int)) pa_nil)) (pa_cons pe_int (pa_cons pe_int pa_nil)))))), ?_⟩
    refine ⟨.ref a, rfl, 63, rfl, a, ns.map V.int, rfl, hS, fun c hc => ?_⟩
    have ec : cutV (ns.map V.int) none (some 63) = ns.map V.int := cut63 (by rw [List.length_map]; exact hl)
    rw [ec]
    refine ⟨c, _, rfl, .inl (SqL.of upd_same), fun L hL => ?_⟩
    refine ⟨(by show 3 ≤ sizeLine; decide), fun p hp => ?_⟩
    have s1 : Same H (upd H c (.lst (ns.map V.int))) := fun b o e => by rw [upd_ne (ne_of_none e hc)]; exact e
    have s2 : Same (upd H c (.lst (ns.map V.int))) (upd (upd H c (.lst (ns.map V.int))) L (.lst (ns.map V.int))) := fun b o e => by rw [upd_ne (ne_of_none e hL)]; exact e
    have s3 : Same (upd (upd H c (.lst (ns.map V.int))) L (.lst (ns.map V.int))) (upd (upd (upd H c (.lst (ns.map V.int))) L (.lst (ns.map V.int))) p (.lst [.ref L, .int 0, .int 0])) := fun b o e => by rw [upd_ne (ne_of_none e hp)]; exact e
    have hLp : L ≠ p := ne_of_none upd_same hp
    exact q p L _ ((s1.trans s2).free hp) (s1.free hL) ⟨⟨0, 0, upd_same, Int.le_refl _, Int.le_refl _⟩, by rw [upd_ne hLp]; exact upd_same, hl⟩ ((s1.trans s2).trans s3)

/-! ### lines drawn -/
def WRD : List Str := ["a", "Word", "end.", "{n}", "{all}", "{name}", "don't;", "", "", Txt.mul "x" 23, "{n", "{{n}}", "{N} ~!", "word"]
theorem wrd_ok : ∀ y ∈ WRD, y.length ≤ 23 ∧ okS y := by decide +kernel
def spLineL : Sp := fun vs H Q _ => ∃ (p L : Addr) (ns : List Int) (n : Nat), vs = [.ref p] ∧ Pen H p L ns n ∧ n + 100 < 1000000 ∧ ∀ (z : Str) (H' : Hp), z.length ≤ 60 → okS z → Pen H' p L ns (n + 8) → Kp p H H' → Q (.str z) H'
theorem ok_lineL {f : Addr} {fd : FuncData} (F : FnP K "_law_line" slaw_line f fd) (T : Txt mg) (D_law_draw : Dn P w K mg base 1 "_law_draw" ["pen", "many"] spDraw) : FnOk P w K mg base CX0 2 f fd ["pen"] spLineL := by
  refine okN F sclaw_line (fun vs H Q E h => ?_) (fun cdv A outer s H vs Q E hr h => ?_)
  · obtain ⟨p, L, ns, n, rfl, _⟩ := h
    rfl
  · obtain ⟨p, L, ns, n, rfl, hP, hn, q⟩ := h
    refine ⟨_, (pss_cons (ps_set (i := 1) sclaw_line.nd rfl (Or.inr rfl) (pe_lst (pa_cons pe_str (pa_cons pe_str (pa_cons pe_str (pa_cons pe_str (pa_cons pe_str (pa_cons pe_str (pa_cons pe_str (pa_cons pe_str (pa_cons pe_str (pa_cons (pe_op op_mul_str pe_str pe_int) (pa_cons pe_str (pa_cons pe_str (pa_cons pe_str (pa_cons pe_str pa_nil))))))))))))))))
      (pss_cons (ps_set (i := 2) sclaw_line.nd rfl (Or.inl rfl) (pe_join pe_str (pe_lc (own := [("k", 3)]) (g := gName 3) (by rfl) sclaw_line.nd (pi_range1 rfl T.m_range (pa_cons (pe_dn D_law_draw (hr.mono (by decide)) rfl (pa_cons (pv 0) (pa_cons pe_int pa_nil))) pa_nil)) (blkOk_by (own := [("k", 3)]) (N := ["pen", "words", "line", "k"]) (sc := defScope slaw_line) (by decide +kernel)) (fun _ _ _ _ _ => (pg_name (i := 3) sclaw_line.nd rfl (Or.inl rfl))) (fun _ _ _ _ _ => pts_nil) (fun _ _ _ _ _ => (pe_ix (r := rIxL K) ix_list (pv 1) (pe_dn D_law_draw (hr.mono (by decide)) rfl (pa_cons (pv 0) (pa_cons pe_int pa_nil))) (fun _ _ => rfl))))))
      (pss_one (ps_ret (pe_slice sl_str (pv 2) po_none (po_some (pe_ix ix_list (pe_lst (pa_cons pe_int (pa_cons pe_int (pa_cons pe_int pa_nil)))) (pe_dn D_law_draw (hr.mono (by decide)) rfl (pa_cons (pv 0) (pa_cons pe_int pa_nil))) (fun _ _ => rfl)))))))), ?_⟩
    refine ⟨("x" : Str), 23, rfl, rfl, mulOk (by decide +kernel) (by decide) (by decide), (by show 14 ≤ sizeLine; decide), fun W hW => ?_⟩
    have nW : W ≠ p := hP.lt_new hW
    have xW : (upd H W (.lst (WRD.map V.str))) W = some (.lst (WRD.map V.str)) := upd_same
    have hP0 : Pen (upd H W (.lst (WRD.map V.str))) p L ns n := hP.new hW
    have k0 : Kp p H (upd H W (.lst (WRD.map V.str))) := Kp.new hW
    revert xW hP0 k0
    show _ → _ → _ → tSeq _ _ _ _ (upd H W (.lst (WRD.map V.str)))
    generalize upd H W (.lst (WRD.map V.str)) = H0
    intro xW hP0 k0
    refine ⟨⟨_, rfl⟩, _, rfl, p, L, ns, n, 6, rfl, hP0, (by decide), (by decide), (by omega), fun k2 H2 k20 k21 hP2 b2 => ?_⟩
    refine ⟨k2, rfl, (by omega), (by omega), fun D hD => ?_⟩
    have nD : D ≠ p := hP2.lt_new hD
    have kD : Kp p H (upd H2 D (.lst [])) := (k0.trans b2.kp).trans (Kp.new hD)
    have x2 : H2 W = some (.lst (WRD.map V.str)) := (b2 W nW).trans xW
    have nWD : W ≠ D := ne_of_none x2 hD
    refine lc_range (lo := 0) (n := k2.toNat) (fun i H3 => ∃ ys : List Str, ys.length = i ∧ (∀ y ∈ ys, y.length ≤ 23 ∧ okS y) ∧ H3 D = some (.lst (ys.map V.str)) ∧ Pen H3 p L ns (n + 1 + i) ∧ Kp p H H3 ∧ H3 W = some (.lst (WRD.map V.str))) ?_ ?_ ?_
    · exact ⟨[], rfl, fun y hy => (nomatch hy), upd_same, hP2.new hD, kD, (upd_ne nWD).trans x2⟩
    · rintro i H3 hi ⟨ys, hl, h1, hD3, hP3, k3, x3⟩
      refine ⟨rfl, ?_⟩
      refine ⟨_, rfl, _, rfl, p, L, ns, _, 14, rfl, hP3, (by decide), (by decide), (by omega), fun k4 H4 k40 k41 hP4 b4 => ?_⟩
      obtain ⟨v, e4, hv⟩ := listAt (xs := WRD.map V.str) k40 k41
      obtain ⟨y, my, rfl⟩ := List.mem_map.mp hv
      refine ⟨W, _, _, _, rfl, rfl, SqL.of ((b4 W nW).trans x3), e4, ?_⟩
      have hD4 : H4 D = some (.lst (ys.map V.str)) := (b4 D nD).trans hD3
      have hP5 : Pen (upd H4 D (.lst (ys.map V.str ++ [V.str y]))) p L ns (n + 1 + i + 1) := hP4.keep (upd_ne nD.symm) (upd_ne (ne_of_none hP2.ls hD))
      refine ⟨_, hD4, ?_, ys ++ [y], ?_, ?_, ?_, hP5.up (by omega), ?_, ?_⟩
      · rw [List.length_map, hl]
        exact small1000 (by omega)
      · rw [List.length_append, hl] <;> rfl
      · intro x hx
        rcases List.mem_append.mp hx with hx | hx
        · exact h1 x hx
        · rw [List.mem_singleton.mp hx]
          exact wrd_ok y my
      · rw [upd_same, List.map_append] <;> rfl
      · intro b o e nb
        rw [upd_ne (ne_of_none ((k0.trans b2.kp) b o e nb) hD)]
        exact b4.kp b o (k3 b o e nb) nb
      · rw [upd_ne nWD]
        exact (b4 W nW).trans x3
    · rintro H3 ⟨ys, hl, h1, hD3, hP3, k3, x3⟩
      have hs := sum_le (m := 23) fun y hy => (h1 y hy).1
      refine ⟨(" " : Str), D, ys, rfl, rfl, .inl (SqL.of hD3), ?_, ?_⟩
      · rw [show (" " : Str).length = 1 by decide +kernel]
        omega
      have hj := StrLaws.join_length_le (" " : Str) ys
      rw [show (" " : Str).length = 1 by decide +kernel] at hj
      have jl : (Txt.join (" " : Str) ys).length ≤ 1000 := by
        rw [show Txt.join (" " : Str) ys = Str.join (" " : Str) ys from StrLaws.glued_eq_join (" " : Str) ys]
        omega
      have js : okS (Txt.join (" " : Str) ys) := okS_join (by decide +kernel) fun y hy => (h1 y hy).2
      generalize Txt.join (" " : Str) ys = z at jl js
      refine ⟨_, rfl, (by show 3 ≤ sizeLine; decide), fun M hM => ?_⟩
      have nM : M ≠ p := hP3.lt_new hM
      refine ⟨_, rfl, p, L, ns, _, 3, rfl, hP3.new hM, (by decide), (by decide), (by omega), fun k5 H5 k50 k51 hP5 b5 => ?_⟩
      obtain ⟨v, e5, hv⟩ := listAt (xs := [V.int 60, V.int 60, V.int 7]) k50 k51
      refine ⟨M, _, _, v, rfl, rfl, SqL.of ((b5 M nM).trans upd_same), e5, ?_⟩
      obtain ⟨m, rfl, hm⟩ : ∃ m : Nat, v = .int (m : Int) ∧ m ≤ 60 := by
        simp only [List.mem_cons, List.not_mem_nil, or_false] at hv
        rcases hv with rfl | rfl | rfl
        · exact ⟨60, rfl, by decide⟩
        · exact ⟨60, rfl, by decide⟩
        · exact ⟨7, rfl, by decide⟩
      refine ⟨_, rfl, z, rfl, Nat.le_of_lt (small1000 jl), ?_⟩
      exact q _ H5 (Nat.le_trans cut_le hm) (okS_cut js) (hP5.up (by omega)) ((k3.trans (Kp.new hM)).trans b5.kp)

theorem fold_cat : ∀ (m : Nat) (a acc : Array Nat), ((List.replicate m a).foldl (· ++ ·) acc).toList = acc.toList ++ (List.replicate m a.toList).flatten
  | 0, a, acc => by simp
  | m + 1, a, acc => by
    rw [List.replicate_succ, List.foldl_cons, fold_cat m, Array.toList_append, List.replicate_succ, List.flatten_cons, List.append_assoc]
theorem mul_ok {z : Str} {n : Int} (h : okS z) : okS (Txt.mul z n) ∧ (Txt.mul z n).length ≤ n.toNat * z.length := by
  unfold Txt.mul
  by_cases h1 : n < 1
  · rw [if_pos h1]
    exact ⟨fun c hc => (nomatch hc), Nat.zero_le _⟩
  · rw [if_neg h1]
    have hn : 1 ≤ n.toNat := by omega
    by_cases h2 : (n == 1 || z.length == 0) = true
    · rw [if_pos h2]
      exact ⟨h, Nat.le_mul_of_pos_left _ hn⟩
    · rw [if_neg h2]
      have e : cp (⟨(List.replicate n.toNat z.cps).foldl (· ++ ·) #[]⟩ : Str) = (List.replicate n.toNat (cp z)).flatten := by
        show ((List.replicate n.toNat z.cps).foldl (· ++ ·) #[]).toList = _
        rw [fold_cat] <;> rfl
      refine ⟨fun c hc => ?_, ?_⟩
      · have hc : c ∈ cp (⟨(List.replicate n.toNat z.cps).foldl (· ++ ·) #[]⟩ : Str) := hc
        rw [e] at hc
        obtain ⟨l, hl, hc⟩ := List.mem_flatten.mp hc
        rw [(List.mem_replicate.mp hl).2] at hc
        exact h c hc
      · rw [← cp_len, e, List.length_flatten, List.map_replicate, List.sum_replicate_nat, cp_len]
        exact Nat.le_refl _

/-! ### lines drawn, long ones too -/
def ABC8 : Str := "abcdefgh"
theorem abc_ok : ∀ c ∈ cp ABC8, gSign c = true := by decide +kernel
theorem cut_strs (ys : List Str) (m : Nat) : cutV (ys.map V.str) none (some (m : Int)) = (ys.take m).map V.str := by
  unfold cutV
  rw [HT.sIx_none, HT.sIx_nat, Nat.sub_zero, List.drop_zero, List.map_take]
  by_cases h : m ≤ (ys.map V.str).length
  · rw [Nat.min_eq_left h]
  · rw [Nat.min_eq_right (by omega), List.take_of_length_le (Nat.le_refl _), List.take_of_length_le (by omega)]
def spLines : Sp := fun vs H Q _ => ∃ (p L : Addr) (ns : List Int) (n : Nat), vs = [.ref p] ∧ Pen H p L ns n ∧ n + 300 < 1000000 ∧ ∀ (b : Addr) (zs : List Str) (H' : Hp), H' b = some (.tup (zs.map V.str)) → zs.length ≤ 12 → (∀ z ∈ zs, z.length ≤ 400 ∧ okS z) → Pen H' p L ns (n + 200) → Kp p H H' → Q (.ref b) H'
theorem ok_linesM {f : Addr} {fd : FuncData} (F : FnP K "_law_lines" slaw_lines f fd) (T : Txt mg) (D_law_draw : Dn P w K mg base 1 "_law_draw" ["pen", "many"] spDraw) (D_law_line : Dn P w K mg base 2 "_law_line" ["pen"] spLineL) : FnOk P w K mg base CX0 3 f fd ["pen"] spLines := by
  refine okN F sclaw_lines (fun vs H Q E h => ?_) (fun cdv A outer s H vs Q E hr h => ?_)
  · obtain ⟨p, L, ns, n, rfl, _⟩ := h
    rfl
  · obtain ⟨p, L, ns, n, rfl, hP, hn, q⟩ := h
    refine ⟨_, (pss_cons (ps_if (pt_cmpR op_eq (pe_dn D_law_draw (hr.mono (by decide)) rfl (pa_cons (pv 0) (pa_cons pe_int pa_nil))) pe_int (nomark _)) (pss_cons (ps_set (i := 1) sclaw_lines.nd rfl (Or.inr rfl) (pe_lc (own := [("k", 3)]) (g := gName 3) (by rfl) sclaw_lines.nd (pi_range1 rfl T.m_range (pa_cons (pe_op op_add pe_int (pe_dn D_law_draw (hr.mono (by decide)) rfl (pa_cons (pv 0) (pa_cons pe_int pa_nil)))) pa_nil)) (blkOk_by (own := [("k", 3)]) (N := ["pen", "long", "many", "k"]) (sc := defScope slaw_lines) (by decide +kernel)) (fun _ _ _ _ _ => (pg_name (i := 3) sclaw_lines.nd rfl (Or.inl rfl))) (fun _ _ _ _ _ => pts_nil) (fun _ _ _ _ _ => (pe_op op_mul_str (pe_ix ix_str pe_str (pv 3) (fun _ _ => rfl)) (pe_op op_add pe_int (pe_dn D_law_draw (hr.mono (by decide)) rfl (pa_cons (pv 0) (pa_cons pe_int pa_nil))))))))
      (pss_one (ps_ret (pe_callTy call_tuple_of (by rfl) T.m_tuple (by decide +kernel) (pa_cons (pe_lc (own := [("k", 3)]) (g := gName 3) (by rfl) sclaw_lines.nd (pi_range1 rfl T.m_range (pa_cons (pe_op op_add pe_int (pe_dn D_law_draw (hr.mono (by decide)) rfl (pa_cons (pv 0) (pa_cons pe_int pa_nil)))) pa_nil)) (blkOk_by (own := [("k", 3)]) (N := ["pen", "long", "many", "k"]) (sc := defScope slaw_lines) (by decide +kernel)) (fun _ _ _ _ _ => (pg_name (i := 3) sclaw_lines.nd rfl (Or.inl rfl))) (fun _ _ _ _ _ => pts_nil) (fun _ _ _ _ _ => (pe_slice sl_str (pe_joinK K rfl pe_str (pe_slice (r := rSlL K) sl_list (pv 1) po_none (po_some (pe_op op_add pe_int (pe_dn D_law_draw (hr.mono (by decide)) rfl (pa_cons (pv 0) (pa_cons pe_int pa_nil))))))) po_none (po_some pe_int)))) pa_nil))))) pss_nil)
      (pss_cons (ps_set (i := 2) sclaw_lines.nd rfl (Or.inr rfl) (pe_ix ix_list (pe_lst (pa_cons (pe_dn D_law_draw (hr.mono (by decide)) rfl (pa_cons (pv 0) (pa_cons pe_int pa_nil))) (pa_cons (pe_dn D_law_draw (hr.mono (by decide)) rfl (pa_cons (pv 0) (pa_cons pe_int pa_nil))) (pa_cons pe_int pa_nil)))) (pe_dn D_law_draw (hr.mono (by decide)) rfl (pa_cons (pv 0) (pa_cons pe_int pa_nil))) (fun _ _ => rfl)))
      (pss_one (ps_ret (pe_callTy call_tuple_of (by rfl) T.m_tuple (by decide +kernel) (pa_cons (pe_lc (own := [("k", 3)]) (g := gName 3) (by rfl) sclaw_lines.nd (pi_range1 rfl T.m_range (pa_cons (pv 2) pa_nil)) (blkOk_by (own := [("k", 3)]) (N := ["pen", "long", "many", "k"]) (sc := defScope slaw_lines) (by decide +kernel)) (fun _ _ _ _ _ => (pg_name (i := 3) sclaw_lines.nd rfl (Or.inl rfl))) (fun _ _ _ _ _ => pts_nil) (fun _ _ _ _ _ => (pe_slice sl_str (pe_dn D_law_line (hr.mono (by decide)) rfl (pa_cons (pv 0) pa_nil)) po_none (po_some (pe_ix (r := rIxL K) ix_list (pe_lst (pa_cons pe_int (pa_cons pe_int pa_nil))) (pe_callTy call_int1 (by rfl) T.m_int (by decide +kernel) (pa_cons (pe_cmpR op_gt (pv 2) pe_int (nomark _)) pa_nil)) (fun _ _ => rfl)))))) pa_nil)))))), ?_⟩
    refine ⟨_, rfl, p, L, ns, n, 4, rfl, hP, (by decide), (by decide), (by omega), fun k0 H0 k00 k01 hP0 b0 => ?_⟩
    refine ⟨rfl, _, rfl, iteB (fun _ => ?_) fun _ => ?_⟩
    · -- long ones
      refine ⟨_, rfl, p, L, ns, _, 8, rfl, hP0, (by decide), (by decide), (by omega), fun k1 H1 k10 k11 hP1 b1 => ?_⟩
      refine ⟨_, _, rfl, rfl, 1 + k1, rfl, (by omega), (by omega), fun W hW => ?_⟩
      have nW : W ≠ p := hP1.lt_new hW
      have kW : Kp p H (upd H1 W (.lst [])) := (b0.kp.trans b1.kp).trans (Kp.new hW)
      refine lc_range (lo := 0) (n := (1 + k1).toNat) (fun i H2 => ∃ ys : List Str, ys.length = i ∧ (∀ y ∈ ys, y.length ≤ 90 ∧ okS y) ∧ H2 W = some (.lst (ys.map V.str)) ∧ Pen H2 p L ns (n + 2 + i) ∧ Kp p H H2) ?_ ?_ ?_
      · exact ⟨[], rfl, fun y hy => (nomatch hy), upd_same, (hP1.new hW).up (by omega), kW⟩
      · rintro i H2 hi ⟨ys, ly, hy, x2, hP2, k2⟩
        have hi : i < 8 := by omega
        refine ⟨rfl, ?_⟩
        obtain ⟨c, ec⟩ := strAt (z := ABC8) (k := 0 + (i : Int)) (by omega) (by rw [show (ABC8.length : Int) = 8 by decide +kernel]; omega)
        have mc : c ∈ cp ABC8 := by
          have e := at_any (xs := ABC8.cps.toList) (z := 0 + (i : Int)) (j := i) (by omega) (List.getElem?_eq_getElem (by rw [show ABC8.cps.toList.length = 8 by decide +kernel]; omega))
          rw [e] at ec
          cases ec
          exact List.getElem_mem _
        have okc : okS (⟨#[c]⟩ : Str) := fun d hd => by
          have hd : d ∈ [c] := hd
          rw [List.mem_singleton.mp hd]
          exact abc_ok c mc
        refine ⟨_, rfl, ABC8, _, c, rfl, rfl, (by decide +kernel), ec, _, rfl, p, L, ns, _, 90, rfl, hP2, (by decide), (by decide), (by omega), fun k3 H3 k30 k31 hP3 b3 => ?_⟩
        obtain ⟨m1, m2⟩ := mul_ok (n := 1 + k3) okc
        rw [len_one, Nat.mul_one] at m2
        refine ⟨_, _, rfl, rfl, _, _, rfl, rfl, mulOk (by rw [len_one]; decide) (by omega) (by omega), ?_⟩
        refine ⟨_, b3.kp _ _ x2 nW, small1000 (by rw [List.length_map]; omega), ys ++ [Txt.mul (⟨#[c]⟩ : Str) (1 + k3)], by rw [List.length_append, ly] <;> rfl, fun y hy' => ?_, ?_, (hP3.keep (upd_ne nW.symm) (upd_ne ?_)).up (by omega), fun b o e nb => ?_⟩
        · rcases List.mem_append.mp hy' with h | h
          · exact hy y h
          · rw [List.mem_singleton.mp h]
            exact ⟨by omega, m1⟩
        · rw [upd_same, List.map_append] <;> rfl
        · exact ne_of_none hP1.ls hW
        · rw [upd_ne (ne_of_none ((b0.kp.trans b1.kp) b o e nb) hW)]
          exact b3.kp _ _ (k2 b o e nb) nb
      · rintro H2 ⟨ys, ly, hy, x2, hP2, k2⟩
        have ly : ys.length ≤ 8 := by omega
        have hP2 := hP2.up (m := n + 10) (by omega)
        refine ⟨_, rfl, p, L, ns, _, 9, rfl, hP2, (by decide), (by decide), (by omega), fun k4 H4 k40 k41 hP4 b4 => ?_⟩
        refine ⟨_, _, rfl, rfl, 1 + k4, rfl, (by omega), (by omega), fun D hD => ?_⟩
        have nD : D ≠ p := hP4.lt_new hD
        have x4 := b4.kp _ _ x2 nW
        have nWD : W ≠ D := ne_of_none x4 hD
        have k24 := k2.trans b4.kp
        refine lc_range (lo := 0) (n := (1 + k4).toNat) (fun i H5 => ∃ zs : List Str, zs.length = i ∧ (∀ z ∈ zs, z.length ≤ 400 ∧ okS z) ∧ H5 D = some (.lst (zs.map V.str)) ∧ H5 W = some (.lst (ys.map V.str)) ∧ Pen H5 p L ns (n + 11 + i) ∧ Kp p H H5) ?_ ?_ ?_
        · exact ⟨[], rfl, fun z hz => (nomatch hz), upd_same, (upd_ne nWD).trans x4, (hP4.new hD).up (by omega), k24.trans (Kp.new hD)⟩
        · rintro i H5 hi ⟨zs, lz, hz, x5, y5, hP5, k5⟩
          have hi : i < 9 := by omega
          refine ⟨rfl, ?_⟩
          refine ⟨⟨_, rfl⟩, _, rfl, _, rfl, p, L, ns, _, 8, rfl, hP5, (by decide), (by decide), (by omega), fun k6 H6 k60 k61 hP6 b6 => ?_⟩
          obtain ⟨m, em⟩ : ∃ m : Nat, 1 + k6 = (m : Int) := ⟨(1 + k6).toNat, by rw [Int.toNat_of_nonneg (by omega)]⟩
          have y6 := b6.kp _ _ y5 nW
          have x6 := b6.kp _ _ x5 nD
          refine ⟨_, _, rfl, rfl, _, rfl, W, _, rfl, SqL.of y6, fun C hC => ?_⟩
          have nC : C ≠ p := hP6.lt_new hC
          have nDC : D ≠ C := ne_of_none x6 hC
          have nWC : W ≠ C := ne_of_none y6 hC
          have ec : cutV (ys.map V.str) none (some (1 + k6)) = (ys.take m).map V.str := by rw [em, cut_strs]
          have xC : (upd H6 C (.lst (cutV (ys.map V.str) none (some (1 + k6))))) C = some (.lst ((ys.take m).map V.str)) := by rw [upd_same, ec]
          have x6C : (upd H6 C (.lst (cutV (ys.map V.str) none (some (1 + k6))))) D = _ := (upd_ne nDC).trans x6
          have y6C : (upd H6 C (.lst (cutV (ys.map V.str) none (some (1 + k6))))) W = _ := (upd_ne nWC).trans y6
          have hP6C := hP6.new (o := .lst (cutV (ys.map V.str) none (some (1 + k6)))) hC
          have k6C := (k5.trans b6.kp).trans (Kp.new (o := .lst (cutV (ys.map V.str) none (some (1 + k6)))) hC)
          revert xC x6C y6C hP6C k6C
          generalize upd H6 C (.lst (cutV (ys.map V.str) none (some (1 + k6)))) = H7
          intro xC x6C y6C hP6C k6C
          have hy' : ∀ y ∈ ys.take m, y.length ≤ 90 ∧ okS y := fun y h => hy y (List.mem_of_mem_take h)
          have lt : (ys.take m).length ≤ 8 := by rw [List.length_take]; omega
          have hs := sum_le (m := 90) fun y h => (hy' y h).1
          have hm2 : (ys.take m).length * 90 ≤ 8 * 90 := Nat.mul_le_mul_right _ lt
          have hj := StrLaws.join_length_le (" " : Str) (ys.take m)
          rw [show (" " : Str).length = 1 by decide +kernel] at hj
          have jl : (Txt.join (" " : Str) (ys.take m)).length ≤ 1000 := by
            rw [txt_join]
            omega
          have js : okS (Txt.join (" " : Str) (ys.take m)) := okS_join (by decide +kernel) fun y h => (hy' y h).2
          refine ⟨(" " : Str), C, ys.take m, rfl, rfl, .inl (SqL.of xC), by rw [show (" " : Str).length = 1 by decide +kernel]; omega, _, rfl, _, rfl, Nat.le_of_lt (small1000 jl), ?_⟩
          refine ⟨_, x6C, small1000 (by rw [List.length_map]; omega), zs ++ [cutS (Txt.join (" " : Str) (ys.take m)) none (some 400)], by rw [List.length_append, lz] <;> rfl, fun z hz' => ?_, ?_, (upd_ne nWD).trans y6C, (hP6C.keep (upd_ne nD.symm) (upd_ne ?_)).up (by omega), fun b o e nb => ?_⟩
          · rcases List.mem_append.mp hz' with h | h
            · exact hz z h
            · rw [List.mem_singleton.mp h]
              exact ⟨cut_le, okS_cut js⟩
          · rw [upd_same, List.map_append] <;> rfl
          · exact ne_of_none hP4.ls hD
          · rw [upd_ne (ne_of_none (k24 b o e nb) hD)]
            exact k6C b o e nb
        · rintro H5 ⟨zs, lz, hz, x5, y5, hP5, k5⟩
          refine ⟨D, _, rfl, .inl ⟨SqL.of x5, fun g hg => ?_⟩⟩
          have xg : (upd H5 g (.tup (zs.map V.str))) g = some (.tup (zs.map V.str)) := upd_same
          exact q g zs _ xg (by omega) hz ((hP5.new hg).up (by omega)) (k5.trans (Kp.new hg))
    · -- short ones
      refine ⟨_, rfl, p, L, ns, _, 4, rfl, hP0, (by decide), (by decide), (by omega), fun a1 H1 a10 a11 hP1 b1 => ?_⟩
      refine ⟨_, rfl, p, L, ns, _, 4, rfl, hP1, (by decide), (by decide), (by omega), fun a2 H2 a20 a21 hP2 b2 => ?_⟩
      refine ⟨(by show 3 ≤ sizeLine; decide), fun M hM => ?_⟩
      have nM : M ≠ p := hP2.lt_new hM
      refine ⟨_, rfl, p, L, ns, _, 3, rfl, hP2.new hM, (by decide), (by decide), (by omega), fun k3 H3 k30 k31 hP3 b3 => ?_⟩
      obtain ⟨v, e3, hv⟩ := listAt (xs := [V.int a1, V.int a2, V.int 12]) k30 k31
      refine ⟨M, _, _, v, rfl, rfl, SqL.of ((b3 M nM).trans upd_same), e3, ?_⟩
      obtain ⟨many, rfl, m0, m1⟩ : ∃ m : Int, v = V.int m ∧ 0 ≤ m ∧ m ≤ 12 := by
        simp only [List.mem_cons, List.not_mem_nil, or_false] at hv
        rcases hv with rfl | rfl | rfl
        · exact ⟨_, rfl, a10, by omega⟩
        · exact ⟨_, rfl, a20, by omega⟩
        · exact ⟨_, rfl, by decide, by decide⟩
      have k3 : Kp p H H3 := (((b0.kp.trans b1.kp).trans b2.kp).trans (Kp.new hM)).trans b3.kp
      refine ⟨_, rfl, many, rfl, (by omega), (by omega), fun D hD => ?_⟩
      have nD : D ≠ p := hP3.lt_new hD
      refine lc_range (lo := 0) (n := many.toNat) (fun i H4 => ∃ ys : List Str, ys.length = i ∧ (∀ y ∈ ys, y.length ≤ 60 ∧ okS y) ∧ H4 D = some (.lst (ys.map V.str)) ∧ Pen H4 p L ns (n + 1 + 3 + 8 * i) ∧ Kp p H H4) ?_ ?_ ?_
      · exact ⟨[], rfl, fun y hy => (nomatch hy), upd_same, hP3.new hD, k3.trans (Kp.new hD)⟩
      · rintro i H4 hi ⟨ys, hl, h1, hD4, hP4, k4⟩
        refine ⟨rfl, ?_⟩
        refine ⟨_, rfl, p, L, ns, _, rfl, hP4, (by omega), fun z H5 hz zs hP5 k5 => ?_⟩
        have hD5 := k5 _ _ hD4 nD
        refine ⟨(by show 2 ≤ sizeLine; decide), fun M2 hM2 => ?_⟩
        have n2 : D ≠ M2 := ne_of_none hD5 hM2
        have k6 : Kp p H (upd H5 M2 (.lst [V.int 60, V.int 12])) := (k4.trans k5).trans (Kp.new hM2)
        have hP6 := hP5.new (o := .lst [V.int 60, V.int 12]) hM2
        have x6 : (upd H5 M2 (.lst [V.int 60, V.int 12])) M2 = some (.lst [V.int 60, V.int 12]) := upd_same
        have hD6 : (upd H5 M2 (.lst [V.int 60, V.int 12])) D = _ := (upd_ne n2).trans hD5
        revert k6 hP6 x6 hD6
        generalize upd H5 M2 (.lst [V.int 60, V.int 12]) = H6
        intro k6 hP6 x6 hD6
        refine ⟨_, rfl, _, _, rfl, rfl, .inr ⟨decide (3 < many), rfl, ?_⟩⟩
        obtain ⟨m, em, hm⟩ : ∃ m : Nat, atI [V.int 60, V.int 12] (if decide (3 < many) = true then 1 else 0) = some (.int (m : Int)) ∧ m ≤ 60 := by
          cases decide (3 < many) with
          | true => exact ⟨12, rfl, by decide⟩
          | false => exact ⟨60, rfl, by decide⟩
        refine ⟨M2, _, _, _, rfl, rfl, SqL.of x6, em, _, rfl, z, rfl, Nat.le_of_lt (small1000 (by omega)), ?_⟩
        have hP7 : Pen (upd H6 D (.lst (ys.map V.str ++ [V.str (cutS z none (some (m : Int)))]))) p L ns (n + 1 + 3 + 8 * i + 8) := hP6.keep (upd_ne nD.symm) (upd_ne (ne_of_none hP3.ls hD))
        refine ⟨_, hD6, ?_, ys ++ [cutS z none (some (m : Int))], ?_, ?_, ?_, hP7.up (by omega), ?_⟩
        · rw [List.length_map, hl]
          exact small1000 (by omega)
        · rw [List.length_append, hl] <;> rfl
        · intro x hx
          rcases List.mem_append.mp hx with hx | hx
          · exact h1 x hx
          · rw [List.mem_singleton.mp hx]
            exact ⟨Nat.le_trans cut_le hm, okS_cut zs⟩
        · rw [upd_same, List.map_append] <;> rfl
        · intro b o e nb
          rw [upd_ne (ne_of_none (k3 b o e nb) hD)]
          exact k6 b o e nb
      · rintro H4 ⟨ys, hl, h1, hD4, hP4, k4⟩
        refine ⟨D, _, rfl, .inl ⟨SqL.of hD4, fun g hg => ?_⟩⟩
        have xg : (upd H4 g (.tup (ys.map V.str))) g = some (.tup (ys.map V.str)) := upd_same
        exact q g ys _ xg (by omega) (fun y hy => ⟨Nat.le_trans (h1 y hy).1 (by decide), (h1 y hy).2⟩) ((hP4.new hg).up (by omega)) (k4.trans (Kp.new hg))

end
end K34

set_option Elab.async false
set_option linter.all false
set_option maxRecDepth 100000
set_option maxHeartbeats 2000000
namespace K34
open PySem PySem.Spec PyProof.Rows L2 GxR Gx Gd Gn Gm Gc Gk Gs Gv Gw Gt Gb
abbrev slaw_rows : Stmt := top 52
theorem sclaw_rows : FnScope ["lines", "wide", "found", "line", "rows", "word", "parts", "one", "at"] ["lines", "wide"] (defScope slaw_rows) := ⟨rfl, rfl, rfl, by decide +kernel, rfl, by decide +kernel, by decide +kernel⟩
section
variable {P : Program} {w : World} {K : PySem.W.Frag} {mg : Str → Option Value} {base : Heap}
/-! ### rows, by the asker's own -/
theorem str_ne {x : W} : (!decide (V.str (mk x) = V.str ("" : Str))) = decide (x ≠ []) := by
  cases x with
  | nil => rw [mk_nil] <;> rfl
  | cons a b =>
    rw [decide_eq_true (show (a :: b) ≠ [] from fun e => nomatch e), decide_eq_false]
    · rfl
    · intro e
      have e2 := congrArg cp (V.str.inj e)
      rw [cp_mk, cp_empty] at e2
      cases e2
theorem str_eq {x : W} : decide (V.str (mk x) = V.str ("" : Str)) = decide (x = []) := by
  by_cases e : x = []
  · rw [e, mk_nil] <;> rfl
  · rw [decide_eq_false e, decide_eq_false]
    intro q
    have e2 := congrArg cp (V.str.inj q)
    rw [cp_mk, cp_empty] at e2
    exact e e2
theorem cut_both (z : Str) (k m : Nat) : cp (cutS z (some (k : Int)) (some ((k : Int) + (m : Int)))) = ((cp z).drop k).take m := by
  unfold cutS cp
  rw [show ((k : Int) + (m : Int)) = ((k + m : Nat) : Int) by omega, HT.sIx_nat, HT.sIx_nat, List.toList_toArray]
  have l : z.cps.toList.length = z.length := cps_len z
  by_cases h : k ≤ z.length
  · rw [Nat.min_eq_left h, List.take_eq_take_iff, List.length_drop]
    omega
  · rw [Nat.min_eq_right (by omega), List.drop_eq_nil_of_le (by omega), List.drop_eq_nil_of_le (by omega), List.take_nil, List.take_nil]
theorem chop_parts {n : Nat} (hn : 1 ≤ n) : ∀ (m : Nat) (x : W), x.length ≤ m → x ≠ [] → (List.range ((x.length - 1) / n + 1)).map (fun k => (x.drop (k * n)).take n) = (chop n m x).1 ++ [(chop n m x).2]
  | 0, x, h, hx => absurd (List.length_eq_zero_iff.mp (Nat.le_zero.mp h)) hx
  | m + 1, x, h, hx => by
    have lx : 1 ≤ x.length := List.length_pos_iff.mpr hx
    unfold chop
    by_cases hl : n < x.length
    · rw [if_pos hl]
      have ld : (x.drop n).length = x.length - n := List.length_drop
      have ih := chop_parts hn m (x.drop n) (by omega) (fun e => by rw [e] at ld; simp at ld; omega)
      rw [ld] at ih
      have ek : (x.length - 1) / n = (x.length - n - 1) / n + 1 := by
        rw [show x.length - 1 = (x.length - n - 1) + n by omega, Nat.add_div_right _ hn]
      rw [ek, List.range_succ_eq_map, List.map_cons, List.map_map]
      show _ = x.take n :: ((chop n m (x.drop n)).1 ++ [(chop n m (x.drop n)).2])
      rw [← ih]
      congr 1
      · rw [Nat.zero_mul, List.drop_zero]
      · refine List.map_congr_left fun k _ => ?_
        show (x.drop ((k + 1) * n)).take n = ((x.drop n).drop (k * n)).take n
        rw [List.drop_drop, Nat.succ_mul, Nat.add_comm]
    · rw [if_neg hl]
      have e0 : (x.length - 1) / n = 0 := Nat.div_eq_of_lt (by omega)
      rw [e0]
      show [(x.drop (0 * n)).take n] = [] ++ [x]
      rw [Nat.zero_mul, List.drop_zero, List.take_of_length_le (by omega)] <;> rfl
theorem rg_parts {L n : Nat} (hL : 1 ≤ L) (hL2 : L ≤ 4000) (hn : 1 ≤ n) (hn2 : n ≤ 1000) : RgC 0 (L : Int) (n : Int) ((L - 1) / n + 1) := by
  have e : Builtin.Range.rangeSize 0 (L : Int) (n : Int) = (((L - 1) / n + 1 : Nat) : Int) := by
    unfold Builtin.Range.rangeSize
    rw [if_pos (by omega), if_pos (by omega), show ((L : Int) - 0 - 1) = ((L - 1 : Nat) : Int) by omega, ← Int.natCast_ediv] <;> rfl
  have d : (L - 1) / n ≤ L - 1 := Nat.div_le_self _ _
  refine ⟨by omega, by omega, ?_, e⟩
  unfold Builtin.Range.small
  rw [e]
  rw [if_pos (show (n : Int) > 0 by omega)]
  revert d
  generalize (L - 1) / n = k
  intro d
  simp only [Builtin.Range.rangeFitsLong, Bool.and_eq_true, Bool.or_eq_true, decide_eq_true_eq, beq_iff_eq]
  omega
theorem lc_rangeC {lo c : Int} {n : Nat} {g : TG} {tt : TT} {te : TE} {vs : List Nat} {σ : L2.St} {H1 : Hp} {D : Addr} {Qd : Hp → Prop} (Pv : Nat → Hp → Prop) (h0 : Pv 0 (upd H1 D (.lst [])))
    (hs : ∀ i H, i < n → Pv i H → g (.int (lo + (i : Nat) * c)) (wipe σ vs) H fun σ2 H2 => wipe σ2 vs = wipe σ vs ∧ tt σ2 H2 fun b H3 =>
      if b = true then te σ2 H3 fun y H4 => ∃ acc, H4 D = some (.lst acc) ∧ acc.length < sizeLine ∧ Pv (i + 1) (upd H4 D (.lst (acc ++ [y]))) else Pv (i + 1) H3) (hd : ∀ H, Pv n H → Qd H) :
    ∃ W : Nat → Nat → Hp → Prop, (∃ m, W 0 m (upd H1 D (.lst []))) ∧ ∀ i m H, W i m H →
      ((Itc lo c n).stop i H ∧ Qd H) ∨ ((Itc lo c n).go i H ∧ ∃ Nx : Hp → Prop, (∀ H', Nx H' → ∃ m', m' < m ∧ W (i + 1) m' H') ∧ ∀ x H', (Itc lo c n).yld i H x H' → g x (wipe σ vs) H' fun σ2 H2 => wipe σ2 vs = wipe σ vs ∧ tt σ2 H2 fun b H3 =>
        if b = true then te σ2 H3 fun y H4 => ∃ acc, H4 D = some (.lst acc) ∧ acc.length < sizeLine ∧ Nx (upd H4 D (.lst (acc ++ [y]))) else Nx H3) := by
  refine ⟨fun i m H => m = n - i ∧ i ≤ n ∧ Pv i H, ⟨n, by simp, Nat.zero_le _, h0⟩, ?_⟩
  rintro i m H ⟨rfl, hi, p⟩
  by_cases hlt : i < n
  · refine .inr ⟨hlt, Pv (i + 1), fun H' p' => ⟨n - (i + 1), by omega, rfl, hlt, p'⟩, fun x H' y => ?_⟩
    obtain ⟨e, y⟩ := y
    subst e y
    exact hs i _ hlt p
  · have e : i = n := by omega
    subst e
    exact .inl ⟨Nat.le_refl _, hd H p⟩
theorem ixN_last {α : Type} (xs : List α) (v : α) : ixN (xs ++ [v]).length (-1) = some xs.length := by
  have hl : (xs ++ [v]).length = xs.length + 1 := by simp
  unfold ixN
  rw [hl, if_neg (by decide), if_pos (by omega)]
  congr 1
  omega
theorem set_last {α : Type} (xs : List α) (v w : α) : (xs ++ [v]).set xs.length w = xs ++ [w] := by
  rw [List.set_append_right _ _ (Nat.le_refl _), Nat.sub_self] <;> rfl
theorem tx_snoc (l : List W) (x : W) : tx (l ++ [x]) = tx l ++ [V.str (mk x)] := by
  rw [tx_app] <;> rfl
def spRowsT (K : PySem.W.Frag) : Sp := fun vs H Q _ => ∃ (a : Addr) (n : Nat) (zs : List Str), vs = [.ref a, .int (n : Int)] ∧ SqT K H a (zs.map V.str) ∧ 1 ≤ n ∧ n ≤ 1000 ∧ zs.length ≤ 100 ∧ (∀ z ∈ zs, z.length ≤ 1000) ∧
  ∀ (p : Addr) (H' : Hp), Same H H' → H p = none → H' p = some (.lst (tx (rowsM n zs))) → Q (.ref p) H'
theorem ok_lawRowsT {f : Addr} {fd : FuncData} (F : FnP K "_law_rows" slaw_rows f fd) (T : Txt mg) : FnOk P w K mg base CX0 1 f fd ["lines", "wide"] (spRowsT K) := by
  refine okN F sclaw_rows (fun vs H Q E h => ?_) (fun cdv A outer s H vs Q E hr h => ?_)
  · obtain ⟨a, n, zs, rfl, _⟩ := h
    rfl
  · obtain ⟨a, n, zs, rfl, ha, hn, hn2, lz, hz, q⟩ := h
    refine ⟨_, (pss_cons (ps_set (i := 2) sclaw_rows.nd rfl (Or.inl rfl) (pe_lst pa_nil))
      (pss_cons (ps_for PassesOwn.never rfl (pi_tup (pv 0)) (pg_name (i := 3) sclaw_rows.nd rfl (Or.inl rfl)) (pss_cons (ps_set (i := 4) sclaw_rows.nd rfl (Or.inl rfl) (pe_lst (pa_cons pe_str pa_nil)))
      (pss_cons (ps_for PassesOwn.never rfl (pi_list (pe_lc (own := [("one", 7)]) (g := gName 7) (by rfl) sclaw_rows.nd (pi_list (pe_bm PySem.F.plainAttrs_str PySem.F.slot_str_split PySem.F.type_str_split mt_split (pv 3) (pa_cons pe_str pa_nil))) (blkOk_by (own := [("one", 7)]) (N := ["lines", "wide", "found", "line", "rows", "word", "parts", "one", "at"]) (sc := defScope slaw_rows) (by decide +kernel)) (fun _ _ _ _ _ => (pg_name (i := 7) sclaw_rows.nd rfl (Or.inl rfl))) (fun _ _ _ _ _ => (pts_one (pt_cmpR op_ne (pv 7) pe_str (nomark _)))) (fun _ _ _ _ _ => (pv 7)))) (pg_name (i := 5) sclaw_rows.nd rfl (Or.inr rfl)) (pss_one (ps_if (PW.pt (pw_and (pt_cmpR op_ne (pe_ix ix_list (pv 4) (pe_un un_neg pe_int) (fun _ _ => rfl)) pe_str (nomark _)) (pw_and1 (pt_cmpR op_le (pe_op op_add (pe_op op_add (pe_callB call_len_str (by rfl) T.m_len (by decide +kernel) (pa_cons (pe_ix ix_list (pv 4) (pe_un un_neg pe_int) (fun _ _ => rfl)) pa_nil)) pe_int) (pe_callB call_len_str (by rfl) T.m_len (by decide +kernel) (pa_cons (pv 5) pa_nil))) (pv 1) (nomark _))))) (pss_one (ps_asg (pe_op op_add_str (pe_op op_add_str (pe_ix ix_list (pv 4) (pe_un un_neg pe_int) (fun _ _ => rfl)) pe_str) (pv 5)) (pg_sub (pv 4) (pe_un un_neg pe_int) set_list))) (pss_cons (ps_setLc (i := 6) (own := [("at", 8)]) (g := gName 8) (by rfl) sclaw_rows.nd rfl rfl (sw_true rfl rfl rfl (by decide +kernel)) (pi_range3 rfl T.m_range (pa_cons pe_int (pa_cons (pe_callB call_len_str (by rfl) T.m_len (by decide +kernel) (pa_cons (pv 5) pa_nil)) (pa_cons (pv 1) pa_nil)))) (blkOk_by (own := [("at", 8)]) (N := ["lines", "wide", "found", "line", "rows", "word", "parts", "one", "at"]) (sc := defScope slaw_rows) (by decide +kernel)) (fun _ _ _ _ _ => (pg_name (i := 8) sclaw_rows.nd rfl (Or.inl rfl))) (fun _ _ _ _ _ => pts_nil) (fun _ _ _ _ _ => (pe_slice sl_str (pv 5) (po_some (pv 8)) (po_some (pe_op op_add (pv 8) (pv 1))))))
      (pss_one (ps_set (i := 4) sclaw_rows.nd rfl (Or.inl rfl) (pe_op op_cat (pe_slice sl_list (pv 4) po_none (po_some (pe_op op_sub (pe_callB call_len_seq (by rfl) T.m_len (by decide +kernel) (pa_cons (pv 4) pa_nil)) (pe_callTy call_int1 (by rfl) T.m_int (by decide +kernel) (pa_cons (pe_cmpR op_eq (pe_ix ix_list (pv 4) (pe_un un_neg pe_int) (fun _ _ => rfl)) pe_str (nomark _)) pa_nil))))) (pv 6))))))))
      (pss_one (ps_set (i := 2) sclaw_rows.nd rfl (Or.inl rfl) (pe_op op_cat (pv 2) (pv 4)))))))
      (pss_one (ps_ret (pv 2))))), ?_⟩
    refine ⟨(by show 0 ≤ sizeLine; decide), fun R hR => ?_⟩
    have s0 := same_new (o := .lst []) hR
    have xR : (upd H R (.lst [])) R = some (.lst (tx [])) := upd_same
    revert xR s0
    generalize upd H R (.lst []) = H0
    intro s0 xR
    have few := fun (i : Nat) => rowsM_few hn (zs := zs.take i) fun z hz' => hz z (List.mem_of_mem_take hz')
    refine ⟨_, rfl, a, rfl, ⟨_, sqT_same s0 ha⟩, for_tup (K := K) (a := a) (xs := zs.map V.str) (fun i σ H1 => ∃ (C : Addr) (v3 v4 v5 v6 : Option V), σ = [some (.ref a), some (.int (n : Int)), some (.ref C), v3, v4, v5, v6, none, none] ∧ Same H H1 ∧ H C = none ∧ H1 C = some (.lst (tx (rowsM n (zs.take i))))) ?_ ?_ ?_ ?_⟩
    · exact ⟨R, none, none, none, none, rfl, s0, hR, xR⟩
    · rintro i σ H1 hi ⟨_, _, _, _, _, _, s1, _⟩
      exact sqT_same s1 ha
    · rintro i v σ H1 hi ⟨C, v3, v4, v5, v6, rfl, s1, hC, xC⟩
      obtain ⟨z, ez, rfl⟩ := str_at hi
      have mz := List.mem_of_getElem? ez
      have lz1 := hz z mz
      have f1 := few i
      have li : (zs.take i).length ≤ 100 := by rw [List.length_take]; omega
      have em : rowsM n (zs.take (i + 1)) = rowsM n (zs.take i) ++ rowsL n (cp z) := by rw [take_more ez, rowsM_app, rowsM_one]
      rw [em]
      revert xC f1
      generalize rowsM n (zs.take i) = F0
      intro xC f1
      have f1 : F0.length ≤ 100100 := by omega
      refine ⟨(by show 1 ≤ sizeLine; decide), fun B hB => ?_⟩
      have nCB : C ≠ B := ne_of_none xC hB
      have s2 := s1.trans (same_new (o := .lst [V.str ""]) hB)
      have hB0 : H B = none := by
        cases e : H B with
        | none => rfl
        | some o => rw [s1 _ _ e] at hB; cases hB
      have xB : (upd H1 B (.lst [V.str ""])) B = some (.lst (tx [[]])) := by rw [upd_same, ← mk_nil] <;> rfl
      have xC2 : (upd H1 B (.lst [V.str ""])) C = _ := (upd_ne nCB).trans xC
      revert s2 xB xC2
      generalize upd H1 B (.lst [V.str ""]) = H2
      clear hB xC s1
      intro s2 xB xC2
      refine ⟨_, rfl, rfl, z, (" " : Str), rfl, rfl, (by decide +kernel), Nat.le_of_lt (small1000' (by omega)), fun S hS => ?_⟩
      rw [split_mk]
      have nCS : C ≠ S := ne_of_none xC2 hS
      have nBS : B ≠ S := ne_of_none xB hS
      have s3 := s2.trans (same_new (o := .lst (tx (spl (cp z)))) hS)
      have xS : (upd H2 S (.lst (((spl (cp z)).map mk).map V.str))) S = some (.lst (tx (spl (cp z)))) := upd_same
      have s3 : Same H (upd H2 S (.lst (((spl (cp z)).map mk).map V.str))) := s3
      have xB3 : (upd H2 S (.lst (((spl (cp z)).map mk).map V.str))) B = _ := (upd_ne nBS).trans xB
      have xC3 : (upd H2 S (.lst (((spl (cp z)).map mk).map V.str))) C = _ := (upd_ne nCS).trans xC2
      revert xS s3 xB3 xC3
      generalize upd H2 S (.lst (((spl (cp z)).map mk).map V.str)) = H3
      clear hS s2 xB xC2
      intro xS s3 xB3 xC3
      have lS := spl_few (cp z)
      rw [cp_len] at lS
      refine ⟨S, rfl, ⟨_, SqL.of xS⟩, fun D hD => ?_⟩
      have nDR : ∀ {b : Addr} {o}, H3 b = some o → b ≠ D := fun e => ne_of_none e hD
      refine lc_list (K := K) (a := S) (xs := tx (spl (cp z))) (fun i H4 => Same H3 H4 ∧ H4 D = some (.lst (tx (((spl (cp z)).take i).filter (· ≠ []))))) ⟨same_new hD, upd_same⟩ (fun i H4 _ h => SqL.of (h.1 _ _ xS)) ?_ ?_
      · rintro i v H4 hi ⟨s4, x4⟩
        obtain ⟨x, ex, rfl⟩ := tx_at hi
        refine ⟨rfl, ?_⟩
        refine ⟨_, rfl, rfl, _, rfl, ?_⟩
        rw [str_ne]
        refine iteB (fun h => ?_) fun h => ?_
        · refine ⟨_, rfl, _, x4, ?_, fun b o e => ?_, ?_⟩
          · have h1 := List.length_filter_le (fun y : W => decide (y ≠ [])) ((spl (cp z)).take i)
            rw [List.length_take] at h1
            rw [tx_len]
            exact small1000' (by omega)
          · rw [upd_ne (ne_of_none e hD)]
            exact s4 _ _ e
          · rw [upd_same, fmore ex, if_pos h, tx_app] <;> rfl
        · refine ⟨s4, ?_⟩
          rw [fmore ex, if_neg (by rw [h]; decide)]
          exact x4
      · rintro H4 ⟨s4, x4⟩
        rw [tx_len, List.take_length] at x4
        have x4 : H4 D = some (.lst (tx (wd (cp z)))) := x4
        have xB4 := s4 _ _ xB3
        have xC4 := s4 _ _ xC3
        have hD0 : H D = none := by
          cases e : H D with
          | none => rfl
          | some o => rw [s3 _ _ e] at hD; cases hD
        have nBD : B ≠ D := nDR xB3
        have s4 := s3.trans s4
        clear xS xB3 xC3 hD s3 nDR
        have hw := fun (i : Nat) => RI.fold hn (us := (wd (cp z)).take i) RI.zero fun y hy => wd_mem (List.mem_of_mem_take hy)
        have lW := wd_few (cp z)
        rw [cp_len] at lW
        have few : ∀ i : Nat, (((wd (cp z)).take i).foldl (stepR n) ([], [])).1.length ≤ 1000 ∧ (((wd (cp z)).take i).foldl (stepR n) ([], [])).2.length ≤ n := fun i => by
          have h := RI.few (hw i)
          rw [List.nil_append] at h
          have h2 : ((wd (cp z)).take i).flatten.length ≤ (wd (cp z)).flatten.length := by
            rw [← List.take_append_drop i (wd (cp z)), List.flatten_append, List.length_append, List.take_append_drop]
            omega
          exact ⟨by omega, h.2⟩
        refine ⟨D, rfl, ⟨_, SqL.of x4⟩, for_list (K := K) (a := D) (xs := tx (wd (cp z))) (fun i σ H5 => ∃ (R : Addr) (v5 v6 : Option V), σ = [some (.ref a), some (.int (n : Int)), some (.ref C), some (.str z), some (.ref R), v5, v6, none, none] ∧ Same H H5 ∧ H R = none ∧ R ≠ D ∧ H5 D = some (.lst (tx (wd (cp z)))) ∧ R ≠ C ∧ H5 C = some (.lst (tx F0)) ∧ H5 R = some (.lst (tx ((((wd (cp z)).take i).foldl (stepR n) ([], [])).1 ++ [(((wd (cp z)).take i).foldl (stepR n) ([], [])).2])))) ?_ ?_ ?_ ?_⟩
        · exact ⟨B, _, _, rfl, s4, hB0, nBD, x4, nCB.symm, xC4, xB4⟩
        · rintro i σ H5 hi ⟨_, _, _, _, _, _, _, x, _⟩
          exact SqL.of x
        · rintro i v σ H5 hi ⟨R, v5, v6, rfl, s5, hR0, nRD, x5, nRC, xC5, xR5⟩
          obtain ⟨x, ex, rfl⟩ := tx_at hi
          have mx := List.mem_of_getElem? ex
          obtain ⟨nx, fx⟩ := wd_mem mx
          have lx : x.length ≤ 1000 := by
            have := wd_short mx
            rw [cp_len] at this
            omega
          have est : ((wd (cp z)).take (i + 1)).foldl (stepR n) ([], []) = stepR n (((wd (cp z)).take i).foldl (stepR n) ([], [])) x := by
            rw [take_more ex, List.foldl_append] <;> rfl
          obtain ⟨f1, f2⟩ := few i
          obtain ⟨f3, f4⟩ := few (i + 1)
          rw [est] at f3 f4 ⊢
          revert xR5 f1 f2 f3 f4
          generalize ((wd (cp z)).take i).foldl (stepR n) ([], []) = st
          intro xR5 f1 f2 f3 f4
          have f2 : st.2.length ≤ 1000 := by omega
          have ll : (mk st.2).length ≤ sizeLine := Nat.le_of_lt (small1000' (by rw [mk_len]; omega))
          have lw : (mk x).length ≤ sizeLine := Nat.le_of_lt (small1000' (by rw [mk_len]; omega))
          have et : tx (st.1 ++ [st.2]) = tx st.1 ++ [V.str (mk st.2)] := tx_snoc _ _
          have aL : atI (tx (st.1 ++ [st.2])) (-1) = some (V.str (mk st.2)) := by rw [et]; exact atI_last _ _
          refine ⟨_, rfl, _, rfl, R, _, _, _, rfl, rfl, SqL.of xR5, aL, rfl, _, rfl, ?_⟩
          rw [str_ne]
          refine iteB (fun hne => ?one) fun hne => ?two
          case' one =>
            have hne := of_decide_eq_true hne
            refine ⟨_, rfl, _, rfl, R, _, _, _, rfl, rfl, SqL.of xR5, aL, _, rfl, ll, _, _, rfl, rfl, _, rfl, _, rfl, lw, _, _, rfl, rfl, _, rfl, _, _, rfl, rfl, _, rfl, iteB (fun hf => ?pos) fun hf => ?neg⟩
            case pos =>
              have hf := of_decide_eq_true hf
              rw [mk_len, mk_len] at hf
              have c : st.2 ≠ [] ∧ st.2.length + 1 + x.length ≤ n := ⟨hne, by omega⟩
              have e1 : stepR n st x = (st.1, st.2 ++ 32 :: x) := if_pos c
              have e2 : mk st.2 ++ (" " : Str) ++ mk x = mk (st.2 ++ 32 :: x) := cp_inj (by
                rw [cp_app, cp_app, cp_mk, cp_mk, cp_mk, cp_blank, List.append_assoc] <;> rfl)
              refine ⟨_, rfl, _, rfl, R, _, _, _, rfl, rfl, SqL.of xR5, aL, _, _, rfl, rfl, Nat.le_of_lt (small4000 (by rw [show (" " : Str).length = 1 by decide +kernel, mk_len]; omega)), _, rfl, _, _, rfl, rfl, Nat.le_of_lt (small4000 (by rw [len_add, mk_len, mk_len, show (" " : Str).length = 1 by decide +kernel]; omega)), ?_⟩
              rw [e2, e1]
              refine ⟨_, rfl, _, rfl, R, _, _, _, rfl, rfl, xR5, by rw [et]; exact ixN_last _ _, ?_⟩
              refine ⟨R, _, _, rfl, fun b o e => ?_, hR0, nRD, ?_, nRC, ?_, ?_⟩
              · rw [upd_ne (ne_of_none e hR0)]
                exact s5 _ _ e
              · rw [upd_ne nRD.symm]
                exact x5
              · rw [upd_ne nRC.symm]
                exact xC5
              · rw [upd_same, et, set_last, tx_snoc] <;> rfl
            have hf := of_decide_eq_false hf
            rw [mk_len, mk_len] at hf
            have c : ¬ (st.2 ≠ [] ∧ st.2.length + 1 + x.length ≤ n) := fun q => hf (by omega)
          case' two =>
            have hne := of_decide_eq_false hne
            have c : ¬ (st.2 ≠ [] ∧ st.2.length + 1 + x.length ≤ n) := fun q => hne q.1
          all_goals
            have e1 : stepR n st x = ((if st.2 ≠ [] then st.1 ++ [st.2] else st.1) ++ (chop n x.length x).1, (chop n x.length x).2) := if_neg c
            have lx1 : 1 ≤ x.length := List.length_pos_iff.mpr nx
            refine ⟨_, rfl, _, rfl, lw, _, rfl, _, _, _, _, rfl, rg_parts (by rw [mk_len]; exact lx1) (by rw [mk_len]; omega) hn hn2, fun E hE => ?_⟩
            have nE : ∀ {b : Addr} {o}, H5 b = some o → b ≠ E := fun e => ne_of_none e hE
            refine lc_rangeC (lo := 0) (c := (n : Int)) (n := ((mk x).length - 1) / n + 1) (fun i H6 => (∀ b o, H5 b = some o → H6 b = some o) ∧ H6 E = some (.lst (tx ((List.range i).map fun k => (x.drop (k * n)).take n)))) ⟨same_new hE, upd_same⟩ ?_ ?_
            · rintro k H6 hk ⟨s6, x6⟩
              have dk : ((mk x).length - 1) / n ≤ (mk x).length - 1 := Nat.div_le_self _ _
              rw [mk_len] at dk hk
              refine ⟨rfl, ?_⟩
              refine ⟨_, rfl, _, rfl, _, rfl, _, rfl, _, rfl, _, _, rfl, rfl, _, rfl, _, rfl, lw, _, x6, small1000 (by rw [tx_len, List.length_map, List.length_range]; omega), fun b o e => ?_, ?_⟩
              · rw [upd_ne (ne_of_none e hE)]
                exact s6 _ _ e
              · have ec : cutS (mk x) (some (0 + (k : Int) * (n : Int))) (some (0 + (k : Int) * (n : Int) + (n : Int))) = mk ((x.drop (k * n)).take n) := cp_inj (by
                  rw [show (0 + (k : Int) * (n : Int)) = ((k * n : Nat) : Int) by rw [Int.zero_add, Int.natCast_mul], cut_both, cp_mk, cp_mk])
                rw [ec, upd_same, List.range_succ, List.map_append, tx_app] <;> rfl
            · rintro H6 ⟨s6, x6⟩
              rw [mk_len, chop_parts hn x.length x (Nat.le_refl _) nx] at x6
              have xR6 := s6 _ _ xR5
              have nRE : R ≠ E := nE xR5
              have lT : (tx (st.1 ++ [st.2])).length ≤ 1001 := by rw [tx_len, List.length_append, List.length_singleton]; omega
              refine ⟨_, rfl, _, rfl, R, _, rfl, .inl (SqL.of xR6), _, rfl, _, rfl, R, _, _, _, rfl, rfl, SqL.of xR6, aL, rfl, .inr ⟨_, rfl, _, _, rfl, rfl, _, rfl, R, _, rfl, SqL.of xR6, fun G hG => ?_⟩⟩
              rw [str_eq]
              have ecut : cutV (tx (st.1 ++ [st.2])) none (some (((tx (st.1 ++ [st.2])).length : Int) - (if decide (st.2 = []) = true then 1 else 0))) = tx (if st.2 ≠ [] then st.1 ++ [st.2] else st.1) := by
                by_cases e : st.2 = []
                · rw [if_pos (decide_eq_true e), if_neg (fun q => q e), et, List.length_append, List.length_singleton]
                  unfold cutV
                  rw [HT.sIx_none, show ((((tx st.1).length + 1 : Nat) : Int) - 1) = (((tx st.1).length : Nat) : Int) by omega, HT.sIx_nat, Nat.min_eq_left (by rw [List.length_append]; omega), Nat.sub_zero, List.drop_zero, List.take_left]
                · rw [if_neg (by rw [decide_eq_false e]; decide), if_pos e]
                  unfold cutV
                  rw [HT.sIx_none, Int.sub_zero, HT.sIx_nat, Nat.min_eq_left (Nat.le_refl _), Nat.sub_zero, List.drop_zero, List.take_length]
              rw [ecut]
              have s7 := same_new (o := .lst (tx (if st.2 ≠ [] then st.1 ++ [st.2] else st.1))) hG
              have xG : (upd H6 G (.lst (tx (if st.2 ≠ [] then st.1 ++ [st.2] else st.1)))) G = some (.lst (tx (if st.2 ≠ [] then st.1 ++ [st.2] else st.1))) := upd_same
              revert s7 xG
              generalize upd H6 G (.lst (tx (if st.2 ≠ [] then st.1 ++ [st.2] else st.1))) = H7
              intro s7 xG
              have s57 : ∀ b o, H5 b = some o → H7 b = some o := fun b o e => s7 _ _ (s6 _ _ e)
              rw [e1] at f3 f4 ⊢
              have f3 : ((if st.2 ≠ [] then st.1 ++ [st.2] else st.1) ++ (chop n x.length x).1).length ≤ 1000 := f3
              rw [List.length_append] at f3
              refine ⟨_, rfl, G, E, _, _, rfl, rfl, xG, s7 _ _ x6, by rw [tx_len, tx_len, List.length_append, List.length_singleton, sizeLine_eq]; omega, fun M hM => ?_⟩
              have hM5 : ∀ {b : Addr} {o}, H5 b = some o → b ≠ M := fun e => ne_of_none (s57 _ _ e) hM
              refine ⟨M, _, _, rfl, fun b o e => ?_, ?_, (hM5 x5).symm, ?_, (hM5 xC5).symm, ?_, ?_⟩
              · rw [upd_ne (hM5 (s5 _ _ e))]
                exact s57 _ _ (s5 _ _ e)
              · cases e : H M with
                | none => rfl
                | some o => exact absurd rfl (hM5 (s5 _ _ e))
              · rw [upd_ne (hM5 x5)]
                exact s57 _ _ x5
              · rw [upd_ne (hM5 xC5)]
                exact s57 _ _ xC5
              · rw [upd_same, ← tx_app, ← List.append_assoc]
        · rintro σ H5 ⟨R, v5, v6, rfl, s5, hR0, nRD, x5, nRC, xC5, xR5⟩
          rw [tx_len, List.take_length] at xR5
          have xR5 : H5 R = some (.lst (tx (rowsL n (cp z)))) := xR5
          obtain ⟨f3, f4⟩ := few (wd (cp z)).length
          rw [List.take_length] at f3
          have lR : (rowsL n (cp z)).length ≤ 1001 := by
            show ((rowsS n (wd (cp z))).1 ++ [(rowsS n (wd (cp z))).2]).length ≤ 1001
            rw [List.length_append, List.length_singleton]
            exact Nat.succ_le_succ f3
          refine ⟨_, rfl, _, rfl, C, R, _, _, rfl, rfl, xC5, xR5, by rw [tx_len, tx_len, sizeLine_eq]; omega, fun C2 hC2 => ?_⟩
          refine ⟨C2, _, _, _, _, rfl, s5.trans (same_new hC2), ?_, ?_⟩
          · cases e : H C2 with
            | none => rfl
            | some o => rw [s5 _ _ e] at hC2; cases hC2
          · rw [upd_same, tx_app]
    · rintro σ H1 ⟨C, v3, v4, v5, v6, rfl, s1, hC, xC⟩
      rw [List.length_map, List.take_length] at xC
      exact ⟨_, rfl, q C H1 s1 hC xC⟩

end
end K34

set_option Elab.async false
set_option linter.all false
set_option maxRecDepth 100000
set_option maxHeartbeats 2000000
namespace K34
open PySem PySem.Spec PyProof.Rows L2 GxR Gx Gd Gn Gm Gc Gk Gs Gv Gw Gt Gb
abbrev slaw_word : Stmt := top 54
theorem sclaw_word : FnScope ["e", "words", "some"] ["e"] (defScope slaw_word) := ⟨rfl, rfl, rfl, by decide +kernel, rfl, by decide +kernel, by decide +kernel⟩
section
variable {P : Program} {w : World} {K : PySem.W.Frag} {mg : Str → Option Value} {base : Heap}
/-! ### the word of an error -/
theorem ok_word {f : Addr} {fd : FuncData} (F : FnP K "_law_word" slaw_word f fd) (T : Txt mg) (C : TxtC K mg) : FnOk P w K mg base CX0 1 f fd ["e"] (spWord K mg) := by
  refine okN F sclaw_word (fun vs H Q E h => ?_) (fun cdv A outer s H vs Q E hr h => ?_)
  · obtain ⟨a, one, rfl, _⟩ := h
    rfl
  · obtain ⟨a, one, rfl, N, hA, q⟩ := h
    refine ⟨_, (pss_cons (ps_set (i := 1) sclaw_word.nd rfl (Or.inl rfl) (pe_lst (pa_cons pe_str (pa_cons pe_str (pa_cons pe_str (pa_cons pe_str (pa_cons pe_str (pa_cons pe_str (pa_cons pe_str (pa_cons pe_str (pa_cons pe_str (pa_cons pe_str (pa_cons pe_str (pa_cons pe_str pa_nil))))))))))))))
      (pss_cons (ps_set (i := 1) sclaw_word.nd rfl (Or.inl rfl) (pe_op op_cat (pv 1) (pe_lst (pa_cons pe_str (pa_cons pe_str (pa_cons pe_str (pa_cons pe_str (pa_cons pe_str (pa_cons pe_str (pa_cons pe_str (pa_cons pe_str (pa_cons pe_str (pa_cons pe_str (pa_cons pe_str pa_nil))))))))))))))
      (pss_cons (ps_set (i := 2) sclaw_word.nd rfl (Or.inl rfl) (pe_lst (pa_cons (pe_callB call_isK (by rfl) T.m_isinstance (by decide +kernel) (pa_cons (pv 0) (pa_cons (pe_glob (v := .ref (He.ga K "NoDeck")) rfl (C.cls "NoDeck" (by decide +kernel)) rfl) pa_nil))) (pa_cons (pe_callB call_isK (by rfl) T.m_isinstance (by decide +kernel) (pa_cons (pv 0) (pa_cons (pe_glob (v := .ref (He.ga K "NoDeed")) rfl (C.cls "NoDeed" (by decide +kernel)) rfl) pa_nil))) (pa_cons (pe_callB call_isK (by rfl) T.m_isinstance (by decide +kernel) (pa_cons (pv 0) (pa_cons (pe_glob (v := .ref (He.ga K "NoLink")) rfl (C.cls "NoLink" (by decide +kernel)) rfl) pa_nil))) (pa_cons (pe_callB call_isK (by rfl) T.m_isinstance (by decide +kernel) (pa_cons (pv 0) (pa_cons (pe_glob (v := .ref (He.ga K "NoMaster")) rfl (C.cls "NoMaster" (by decide +kernel)) rfl) pa_nil))) pa_nil))))))
      (pss_cons (ps_set (i := 2) sclaw_word.nd rfl (Or.inl rfl) (pe_op op_cat (pv 2) (pe_lst (pa_cons (pe_callB call_isK (by rfl) T.m_isinstance (by decide +kernel) (pa_cons (pv 0) (pa_cons (pe_glob (v := .ref (He.ga K "NoName")) rfl (C.cls "NoName" (by decide +kernel)) rfl) pa_nil))) (pa_cons (pe_callB call_isK (by rfl) T.m_isinstance (by decide +kernel) (pa_cons (pv 0) (pa_cons (pe_glob (v := .ref (He.ga K "NoNumber")) rfl (C.cls "NoNumber" (by decide +kernel)) rfl) pa_nil))) (pa_cons (pe_callB call_isK (by rfl) T.m_isinstance (by decide +kernel) (pa_cons (pv 0) (pa_cons (pe_glob (v := .ref (He.ga K "NoPlace")) rfl (C.cls "NoPlace" (by decide +kernel)) rfl) pa_nil))) (pa_cons (pe_callB call_isK (by rfl) T.m_isinstance (by decide +kernel) (pa_cons (pv 0) (pa_cons (pe_glob (v := .ref (He.ga K "NoPress")) rfl (C.cls "NoPress" (by decide +kernel)) rfl) pa_nil))) pa_nil)))))))
      (pss_cons (ps_set (i := 2) sclaw_word.nd rfl (Or.inl rfl) (pe_op op_cat (pv 2) (pe_lst (pa_cons (pe_callB call_isK (by rfl) T.m_isinstance (by decide +kernel) (pa_cons (pv 0) (pa_cons (pe_glob (v := .ref (He.ga K "NoRoom")) rfl (C.cls "NoRoom" (by decide +kernel)) rfl) pa_nil))) (pa_cons (pe_callB call_isK (by rfl) T.m_isinstance (by decide +kernel) (pa_cons (pv 0) (pa_cons (pe_glob (v := .ref (He.ga K "NoRow")) rfl (C.cls "NoRow" (by decide +kernel)) rfl) pa_nil))) (pa_cons (pe_callB call_isK (by rfl) T.m_isinstance (by decide +kernel) (pa_cons (pv 0) (pa_cons (pe_glob (v := .ref (He.ga K "NoSetting")) rfl (C.cls "NoSetting" (by decide +kernel)) rfl) pa_nil))) (pa_cons (pe_callB call_isK (by rfl) T.m_isinstance (by decide +kernel) (pa_cons (pv 0) (pa_cons (pe_glob (v := .ref (He.ga K "NoShow")) rfl (C.cls "NoShow" (by decide +kernel)) rfl) pa_nil))) pa_nil)))))))
      (pss_cons (ps_set (i := 2) sclaw_word.nd rfl (Or.inl rfl) (pe_op op_cat (pv 2) (pe_lst (pa_cons (pe_callB call_isK (by rfl) T.m_isinstance (by decide +kernel) (pa_cons (pv 0) (pa_cons (pe_glob (v := .ref (He.ga K "NoSlide")) rfl (C.cls "NoSlide" (by decide +kernel)) rfl) pa_nil))) (pa_cons (pe_callB call_isK (by rfl) T.m_isinstance (by decide +kernel) (pa_cons (pv 0) (pa_cons (pe_glob (v := .ref (He.ga K "NoSteps")) rfl (C.cls "NoSteps" (by decide +kernel)) rfl) pa_nil))) (pa_cons (pe_callB call_isK (by rfl) T.m_isinstance (by decide +kernel) (pa_cons (pv 0) (pa_cons (pe_glob (v := .ref (He.ga K "NoText")) rfl (C.cls "NoText" (by decide +kernel)) rfl) pa_nil))) (pa_cons (pe_callB call_isK (by rfl) T.m_isinstance (by decide +kernel) (pa_cons (pv 0) (pa_cons (pe_glob (v := .ref (He.ga K "NoTime")) rfl (C.cls "NoTime" (by decide +kernel)) rfl) pa_nil))) pa_nil)))))))
      (pss_cons (ps_set (i := 2) sclaw_word.nd rfl (Or.inl rfl) (pe_op op_cat (pv 2) (pe_lst (pa_cons (pe_callB call_isK (by rfl) T.m_isinstance (by decide +kernel) (pa_cons (pv 0) (pa_cons (pe_glob (v := .ref (He.ga K "NoTrait")) rfl (C.cls "NoTrait" (by decide +kernel)) rfl) pa_nil))) (pa_cons (pe_callB call_isK (by rfl) T.m_isinstance (by decide +kernel) (pa_cons (pv 0) (pa_cons (pe_glob (v := .ref (He.ga K "NoWord")) rfl (C.cls "NoWord" (by decide +kernel)) rfl) pa_nil))) (pa_cons (pe_callB call_isK (by rfl) T.m_isinstance (by decide +kernel) (pa_cons (pv 0) (pa_cons (pe_glob (v := .ref (He.ga K "NoWorth")) rfl (C.cls "NoWorth" (by decide +kernel)) rfl) pa_nil))) (pa_cons (pe_callB call_isK (by rfl) T.m_isinstance (by decide +kernel) (pa_cons (pv 0) (pa_cons (pe_glob (v := .ref (He.ga K "Ring")) rfl (C.cls "Ring" (by decide +kernel)) rfl) pa_nil))) pa_nil)))))))
      (pss_cons (ps_set (i := 2) sclaw_word.nd rfl (Or.inl rfl) (pe_op op_cat (pv 2) (pe_lst (pa_cons (pe_callB call_isK (by rfl) T.m_isinstance (by decide +kernel) (pa_cons (pv 0) (pa_cons (pe_glob (v := .ref (He.ga K "Taken")) rfl (C.cls "Taken" (by decide +kernel)) rfl) pa_nil))) (pa_cons (pe_callB call_isK (by rfl) T.m_isinstance (by decide +kernel) (pa_cons (pv 0) (pa_cons (pe_glob (v := .ref (He.ga K "TooMany")) rfl (C.cls "TooMany" (by decide +kernel)) rfl) pa_nil))) (pa_cons (pe_callB call_isK (by rfl) T.m_isinstance (by decide +kernel) (pa_cons (pv 0) (pa_cons (pe_glob (v := .ref (He.ga K "Used")) rfl (C.cls "Used" (by decide +kernel)) rfl) pa_nil))) pa_nil))))))
      (pss_cons (ps_if (PW.pt (pw_or (pt_cmpR op_ne (pe_bm PySem.F.plainAttrs_list PySem.F.slot_list_count PySem.F.type_list_count mt_lcountV (pv 2) (pa_cons pe_bl pa_nil)) pe_int (nomark _)) (pw_or1 (pt_not (pt_val (pe_callB call_isK (by rfl) T.m_isinstance (by decide +kernel) (pa_cons (pv 0) (pa_cons (pe_bltn (v := .ty "ValueError") (u := .type "ValueError") rfl T.m_ValueError (by decide +kernel) rfl) pa_nil)))))))) (pss_one (ps_ret pe_str)) pss_nil)
      (pss_one (ps_ret (pe_ix ix_list (pv 1) (pe_bm PySem.F.plainAttrs_list PySem.F.slot_list_index PySem.F.type_list_index mt_index (pv 2) (pa_cons pe_bl pa_nil)) (fun _ _ => rfl))))))))))))), ?_⟩
    refine ⟨(by show 12 ≤ sizeLine; decide), fun w1 hw1 => ?_⟩
    have x1 : (upd H w1 (.lst (WRA.map V.str))) w1 = some (.lst (WRA.map V.str)) := upd_same
    have n1 : Same H (upd H w1 (.lst (WRA.map V.str))) := same_new hw1
    refine ⟨_, rfl, (by show 11 ≤ sizeLine; decide), fun w2 hw2 => ?_⟩
    have x2 : (upd (upd H w1 (.lst (WRA.map V.str))) w2 (.lst (WRB.map V.str))) w2 = some (.lst (WRB.map V.str)) := upd_same
    have n2 : Same (upd H w1 (.lst (WRA.map V.str))) (upd (upd H w1 (.lst (WRA.map V.str))) w2 (.lst (WRB.map V.str))) := same_new hw2
    refine ⟨w1, w2, WRA.map V.str, WRB.map V.str, rfl, rfl, n2 _ _ x1, x2, (by show 23 ≤ sizeLine; decide), fun W hW => ?_⟩
    have eW : (upd (upd (upd H w1 (.lst (WRA.map V.str))) w2 (.lst (WRB.map V.str))) W (.lst (WRA.map V.str ++ WRB.map V.str))) W = some (.lst (WRA.map V.str ++ WRB.map V.str)) := upd_same
    have m0 : Same H (upd (upd (upd H w1 (.lst (WRA.map V.str))) w2 (.lst (WRB.map V.str))) W (.lst (WRA.map V.str ++ WRB.map V.str))) := (n1.trans n2).trans (same_new hW)
    revert eW m0
    show _ → _ → tSeq _ _ _ _ (upd (upd (upd H w1 (.lst (WRA.map V.str))) w2 (.lst (WRB.map V.str))) W (.lst (WRA.map V.str ++ WRB.map V.str)))
    generalize upd (upd (upd H w1 (.lst (WRA.map V.str))) w2 (.lst (WRB.map V.str))) W (.lst (WRA.map V.str ++ WRB.map V.str)) = HW
    intro eW m0
    refine ⟨_, rfl, a, _, _, _, decide (("NoDeck" : Str) = one), rfl, m0 _ _ hA, N.c, fun _ e => e, kitW N (x := "NoDeck") (by decide +kernel), _, rfl, a, _, _, _, decide (("NoDeed" : Str) = one), rfl, m0 _ _ hA, N.c, fun _ e => e, kitW N (x := "NoDeed") (by decide +kernel), _, rfl, a, _, _, _, decide (("NoLink" : Str) = one), rfl, m0 _ _ hA, N.c, fun _ e => e, kitW N (x := "NoLink") (by decide +kernel), _, rfl, a, _, _, _, decide (("NoMaster" : Str) = one), rfl, m0 _ _ hA, N.c, fun _ e => e, kitW N (x := "NoMaster") (by decide +kernel), (by show 4 ≤ sizeLine; decide), fun p0 hp0 => ?_⟩
    have x_p0 : (upd HW p0 (.lst [V.bl (decide (("NoDeck" : Str) = one)), V.bl (decide (("NoDeed" : Str) = one)), V.bl (decide (("NoLink" : Str) = one)), V.bl (decide (("NoMaster" : Str) = one))])) p0 = some (.lst [V.bl (decide (("NoDeck" : Str) = one)), V.bl (decide (("NoDeed" : Str) = one)), V.bl (decide (("NoLink" : Str) = one)), V.bl (decide (("NoMaster" : Str) = one))]) := upd_same
    have s_p0 : Same HW (upd HW p0 (.lst [V.bl (decide (("NoDeck" : Str) = one)), V.bl (decide (("NoDeed" : Str) = one)), V.bl (decide (("NoLink" : Str) = one)), V.bl (decide (("NoMaster" : Str) = one))])) := same_new hp0
    revert x_p0 s_p0
    generalize upd HW p0 (.lst [V.bl (decide (("NoDeck" : Str) = one)), V.bl (decide (("NoDeed" : Str) = one)), V.bl (decide (("NoLink" : Str) = one)), V.bl (decide (("NoMaster" : Str) = one))]) = H_p0
    intro x_p0 s_p0
    have m1 := m0.trans s_p0
    refine ⟨_, rfl, _, rfl, a, _, _, _, decide (("NoName" : Str) = one), rfl, m1 _ _ hA, N.c, fun _ e => e, kitW N (x := "NoName") (by decide +kernel), _, rfl, a, _, _, _, decide (("NoNumber" : Str) = one), rfl, m1 _ _ hA, N.c, fun _ e => e, kitW N (x := "NoNumber") (by decide +kernel), _, rfl, a, _, _, _, decide (("NoPlace" : Str) = one), rfl, m1 _ _ hA, N.c, fun _ e => e, kitW N (x := "NoPlace") (by decide +kernel), _, rfl, a, _, _, _, decide (("NoPress" : Str) = one), rfl, m1 _ _ hA, N.c, fun _ e => e, kitW N (x := "NoPress") (by decide +kernel), (by show 4 ≤ sizeLine; decide), fun p1 hp1 => ?_⟩
    have x_p1 : (upd H_p0 p1 (.lst [V.bl (decide (("NoName" : Str) = one)), V.bl (decide (("NoNumber" : Str) = one)), V.bl (decide (("NoPlace" : Str) = one)), V.bl (decide (("NoPress" : Str) = one))])) p1 = some (.lst [V.bl (decide (("NoName" : Str) = one)), V.bl (decide (("NoNumber" : Str) = one)), V.bl (decide (("NoPlace" : Str) = one)), V.bl (decide (("NoPress" : Str) = one))]) := upd_same
    have s_p1 : Same H_p0 (upd H_p0 p1 (.lst [V.bl (decide (("NoName" : Str) = one)), V.bl (decide (("NoNumber" : Str) = one)), V.bl (decide (("NoPlace" : Str) = one)), V.bl (decide (("NoPress" : Str) = one))])) := same_new hp1
    revert x_p1 s_p1
    generalize upd H_p0 p1 (.lst [V.bl (decide (("NoName" : Str) = one)), V.bl (decide (("NoNumber" : Str) = one)), V.bl (decide (("NoPlace" : Str) = one)), V.bl (decide (("NoPress" : Str) = one))]) = H_p1
    intro x_p1 s_p1
    refine ⟨_, _, _, _, rfl, rfl, s_p1 _ _ x_p0, x_p1, (by show 8 ≤ sizeLine; decide), fun r1 hr1 => ?_⟩
    have x_r1 : (upd H_p1 r1 (.lst ([V.bl (decide (("NoDeck" : Str) = one)), V.bl (decide (("NoDeed" : Str) = one)), V.bl (decide (("NoLink" : Str) = one)), V.bl (decide (("NoMaster" : Str) = one))] ++ [V.bl (decide (("NoName" : Str) = one)), V.bl (decide (("NoNumber" : Str) = one)), V.bl (decide (("NoPlace" : Str) = one)), V.bl (decide (("NoPress" : Str) = one))]))) r1 = some (.lst ([V.bl (decide (("NoDeck" : Str) = one)), V.bl (decide (("NoDeed" : Str) = one)), V.bl (decide (("NoLink" : Str) = one)), V.bl (decide (("NoMaster" : Str) = one))] ++ [V.bl (decide (("NoName" : Str) = one)), V.bl (decide (("NoNumber" : Str) = one)), V.bl (decide (("NoPlace" : Str) = one)), V.bl (decide (("NoPress" : Str) = one))])) := upd_same
    have s_r1 : Same H_p1 (upd H_p1 r1 (.lst ([V.bl (decide (("NoDeck" : Str) = one)), V.bl (decide (("NoDeed" : Str) = one)), V.bl (decide (("NoLink" : Str) = one)), V.bl (decide (("NoMaster" : Str) = one))] ++ [V.bl (decide (("NoName" : Str) = one)), V.bl (decide (("NoNumber" : Str) = one)), V.bl (decide (("NoPlace" : Str) = one)), V.bl (decide (("NoPress" : Str) = one))]))) := same_new hr1
    revert x_r1 s_r1
    generalize upd H_p1 r1 (.lst ([V.bl (decide (("NoDeck" : Str) = one)), V.bl (decide (("NoDeed" : Str) = one)), V.bl (decide (("NoLink" : Str) = one)), V.bl (decide (("NoMaster" : Str) = one))] ++ [V.bl (decide (("NoName" : Str) = one)), V.bl (decide (("NoNumber" : Str) = one)), V.bl (decide (("NoPlace" : Str) = one)), V.bl (decide (("NoPress" : Str) = one))])) = H_r1
    intro x_r1 s_r1
    have m2 := (m1.trans s_p1).trans s_r1
    refine ⟨_, rfl, _, rfl, a, _, _, _, decide (("NoRoom" : Str) = one), rfl, m2 _ _ hA, N.c, fun _ e => e, kitW N (x := "NoRoom") (by decide +kernel), _, rfl, a, _, _, _, decide (("NoRow" : Str) = one), rfl, m2 _ _ hA, N.c, fun _ e => e, kitW N (x := "NoRow") (by decide +kernel), _, rfl, a, _, _, _, decide (("NoSetting" : Str) = one), rfl, m2 _ _ hA, N.c, fun _ e => e, kitW N (x := "NoSetting") (by decide +kernel), _, rfl, a, _, _, _, decide (("NoShow" : Str) = one), rfl, m2 _ _ hA, N.c, fun _ e => e, kitW N (x := "NoShow") (by decide +kernel), (by show 4 ≤ sizeLine; decide), fun p2 hp2 => ?_⟩
    have x_p2 : (upd H_r1 p2 (.lst [V.bl (decide (("NoRoom" : Str) = one)), V.bl (decide (("NoRow" : Str) = one)), V.bl (decide (("NoSetting" : Str) = one)), V.bl (decide (("NoShow" : Str) = one))])) p2 = some (.lst [V.bl (decide (("NoRoom" : Str) = one)), V.bl (decide (("NoRow" : Str) = one)), V.bl (decide (("NoSetting" : Str) = one)), V.bl (decide (("NoShow" : Str) = one))]) := upd_same
    have s_p2 : Same H_r1 (upd H_r1 p2 (.lst [V.bl (decide (("NoRoom" : Str) = one)), V.bl (decide (("NoRow" : Str) = one)), V.bl (decide (("NoSetting" : Str) = one)), V.bl (decide (("NoShow" : Str) = one))])) := same_new hp2
    revert x_p2 s_p2
    generalize upd H_r1 p2 (.lst [V.bl (decide (("NoRoom" : Str) = one)), V.bl (decide (("NoRow" : Str) = one)), V.bl (decide (("NoSetting" : Str) = one)), V.bl (decide (("NoShow" : Str) = one))]) = H_p2
    intro x_p2 s_p2
    refine ⟨_, _, _, _, rfl, rfl, s_p2 _ _ x_r1, x_p2, (by show 12 ≤ sizeLine; decide), fun r2 hr2 => ?_⟩
    have x_r2 : (upd H_p2 r2 (.lst ([V.bl (decide (("NoDeck" : Str) = one)), V.bl (decide (("NoDeed" : Str) = one)), V.bl (decide (("NoLink" : Str) = one)), V.bl (decide (("NoMaster" : Str) = one))] ++ [V.bl (decide (("NoName" : Str) = one)), V.bl (decide (("NoNumber" : Str) = one)), V.bl (decide (("NoPlace" : Str) = one)), V.bl (decide (("NoPress" : Str) = one))] ++ [V.bl (decide (("NoRoom" : Str) = one)), V.bl (decide (("NoRow" : Str) = one)), V.bl (decide (("NoSetting" : Str) = one)), V.bl (decide (("NoShow" : Str) = one))]))) r2 = some (.lst ([V.bl (decide (("NoDeck" : Str) = one)), V.bl (decide (("NoDeed" : Str) = one)), V.bl (decide (("NoLink" : Str) = one)), V.bl (decide (("NoMaster" : Str) = one))] ++ [V.bl (decide (("NoName" : Str) = one)), V.bl (decide (("NoNumber" : Str) = one)), V.bl (decide (("NoPlace" : Str) = one)), V.bl (decide (("NoPress" : Str) = one))] ++ [V.bl (decide (("NoRoom" : Str) = one)), V.bl (decide (("NoRow" : Str) = one)), V.bl (decide (("NoSetting" : Str) = one)), V.bl (decide (("NoShow" : Str) = one))])) := upd_same
    have s_r2 : Same H_p2 (upd H_p2 r2 (.lst ([V.bl (decide (("NoDeck" : Str) = one)), V.bl (decide (("NoDeed" : Str) = one)), V.bl (decide (("NoLink" : Str) = one)), V.bl (decide (("NoMaster" : Str) = one))] ++ [V.bl (decide (("NoName" : Str) = one)), V.bl (decide (("NoNumber" : Str) = one)), V.bl (decide (("NoPlace" : Str) = one)), V.bl (decide (("NoPress" : Str) = one))] ++ [V.bl (decide (("NoRoom" : Str) = one)), V.bl (decide (("NoRow" : Str) = one)), V.bl (decide (("NoSetting" : Str) = one)), V.bl (decide (("NoShow" : Str) = one))]))) := same_new hr2
    revert x_r2 s_r2
    generalize upd H_p2 r2 (.lst ([V.bl (decide (("NoDeck" : Str) = one)), V.bl (decide (("NoDeed" : Str) = one)), V.bl (decide (("NoLink" : Str) = one)), V.bl (decide (("NoMaster" : Str) = one))] ++ [V.bl (decide (("NoName" : Str) = one)), V.bl (decide (("NoNumber" : Str) = one)), V.bl (decide (("NoPlace" : Str) = one)), V.bl (decide (("NoPress" : Str) = one))] ++ [V.bl (decide (("NoRoom" : Str) = one)), V.bl (decide (("NoRow" : Str) = one)), V.bl (decide (("NoSetting" : Str) = one)), V.bl (decide (("NoShow" : Str) = one))])) = H_r2
    intro x_r2 s_r2
    have m3 := (m2.trans s_p2).trans s_r2
    refine ⟨_, rfl, _, rfl, a, _, _, _, decide (("NoSlide" : Str) = one), rfl, m3 _ _ hA, N.c, fun _ e => e, kitW N (x := "NoSlide") (by decide +kernel), _, rfl, a, _, _, _, decide (("NoSteps" : Str) = one), rfl, m3 _ _ hA, N.c, fun _ e => e, kitW N (x := "NoSteps") (by decide +kernel), _, rfl, a, _, _, _, decide (("NoText" : Str) = one), rfl, m3 _ _ hA, N.c, fun _ e => e, kitW N (x := "NoText") (by decide +kernel), _, rfl, a, _, _, _, decide (("NoTime" : Str) = one), rfl, m3 _ _ hA, N.c, fun _ e => e, kitW N (x := "NoTime") (by decide +kernel), (by show 4 ≤ sizeLine; decide), fun p3 hp3 => ?_⟩
    have x_p3 : (upd H_r2 p3 (.lst [V.bl (decide (("NoSlide" : Str) = one)), V.bl (decide (("NoSteps" : Str) = one)), V.bl (decide (("NoText" : Str) = one)), V.bl (decide (("NoTime" : Str) = one))])) p3 = some (.lst [V.bl (decide (("NoSlide" : Str) = one)), V.bl (decide (("NoSteps" : Str) = one)), V.bl (decide (("NoText" : Str) = one)), V.bl (decide (("NoTime" : Str) = one))]) := upd_same
    have s_p3 : Same H_r2 (upd H_r2 p3 (.lst [V.bl (decide (("NoSlide" : Str) = one)), V.bl (decide (("NoSteps" : Str) = one)), V.bl (decide (("NoText" : Str) = one)), V.bl (decide (("NoTime" : Str) = one))])) := same_new hp3
    revert x_p3 s_p3
    generalize upd H_r2 p3 (.lst [V.bl (decide (("NoSlide" : Str) = one)), V.bl (decide (("NoSteps" : Str) = one)), V.bl (decide (("NoText" : Str) = one)), V.bl (decide (("NoTime" : Str) = one))]) = H_p3
    intro x_p3 s_p3
    refine ⟨_, _, _, _, rfl, rfl, s_p3 _ _ x_r2, x_p3, (by show 16 ≤ sizeLine; decide), fun r3 hr3 => ?_⟩
    have x_r3 : (upd H_p3 r3 (.lst ([V.bl (decide (("NoDeck" : Str) = one)), V.bl (decide (("NoDeed" : Str) = one)), V.bl (decide (("NoLink" : Str) = one)), V.bl (decide (("NoMaster" : Str) = one))] ++ [V.bl (decide (("NoName" : Str) = one)), V.bl (decide (("NoNumber" : Str) = one)), V.bl (decide (("NoPlace" : Str) = one)), V.bl (decide (("NoPress" : Str) = one))] ++ [V.bl (decide (("NoRoom" : Str) = one)), V.bl (decide (("NoRow" : Str) = one)), V.bl (decide (("NoSetting" : Str) = one)), V.bl (decide (("NoShow" : Str) = one))] ++ [V.bl (decide (("NoSlide" : Str) = one)), V.bl (decide (("NoSteps" : Str) = one)), V.bl (decide (("NoText" : Str) = one)), V.bl (decide (("NoTime" : Str) = one))]))) r3 = some (.lst ([V.bl (decide (("NoDeck" : Str) = one)), V.bl (decide (("NoDeed" : Str) = one)), V.bl (decide (("NoLink" : Str) = one)), V.bl (decide (("NoMaster" : Str) = one))] ++ [V.bl (decide (("NoName" : Str) = one)), V.bl (decide (("NoNumber" : Str) = one)), V.bl (decide (("NoPlace" : Str) = one)), V.bl (decide (("NoPress" : Str) = one))] ++ [V.bl (decide (("NoRoom" : Str) = one)), V.bl (decide (("NoRow" : Str) = one)), V.bl (decide (("NoSetting" : Str) = one)), V.bl (decide (("NoShow" : Str) = one))] ++ [V.bl (decide (("NoSlide" : Str) = one)), V.bl (decide (("NoSteps" : Str) = one)), V.bl (decide (("NoText" : Str) = one)), V.bl (decide (("NoTime" : Str) = one))])) := upd_same
    have s_r3 : Same H_p3 (upd H_p3 r3 (.lst ([V.bl (decide (("NoDeck" : Str) = one)), V.bl (decide (("NoDeed" : Str) = one)), V.bl (decide (("NoLink" : Str) = one)), V.bl (decide (("NoMaster" : Str) = one))] ++ [V.bl (decide (("NoName" : Str) = one)), V.bl (decide (("NoNumber" : Str) = one)), V.bl (decide (("NoPlace" : Str) = one)), V.bl (decide (("NoPress" : Str) = one))] ++ [V.bl (decide (("NoRoom" : Str) = one)), V.bl (decide (("NoRow" : Str) = one)), V.bl (decide (("NoSetting" : Str) = one)), V.bl (decide (("NoShow" : Str) = one))] ++ [V.bl (decide (("NoSlide" : Str) = one)), V.bl (decide (("NoSteps" : Str) = one)), V.bl (decide (("NoText" : Str) = one)), V.bl (decide (("NoTime" : Str) = one))]))) := same_new hr3
    revert x_r3 s_r3
    generalize upd H_p3 r3 (.lst ([V.bl (decide (("NoDeck" : Str) = one)), V.bl (decide (("NoDeed" : Str) = one)), V.bl (decide (("NoLink" : Str) = one)), V.bl (decide (("NoMaster" : Str) = one))] ++ [V.bl (decide (("NoName" : Str) = one)), V.bl (decide (("NoNumber" : Str) = one)), V.bl (decide (("NoPlace" : Str) = one)), V.bl (decide (("NoPress" : Str) = one))] ++ [V.bl (decide (("NoRoom" : Str) = one)), V.bl (decide (("NoRow" : Str) = one)), V.bl (decide (("NoSetting" : Str) = one)), V.bl (decide (("NoShow" : Str) = one))] ++ [V.bl (decide (("NoSlide" : Str) = one)), V.bl (decide (("NoSteps" : Str) = one)), V.bl (decide (("NoText" : Str) = one)), V.bl (decide (("NoTime" : Str) = one))])) = H_r3
    intro x_r3 s_r3
    have m4 := (m3.trans s_p3).trans s_r3
    refine ⟨_, rfl, _, rfl, a, _, _, _, decide (("NoTrait" : Str) = one), rfl, m4 _ _ hA, N.c, fun _ e => e, kitW N (x := "NoTrait") (by decide +kernel), _, rfl, a, _, _, _, decide (("NoWord" : Str) = one), rfl, m4 _ _ hA, N.c, fun _ e => e, kitW N (x := "NoWord") (by decide +kernel), _, rfl, a, _, _, _, decide (("NoWorth" : Str) = one), rfl, m4 _ _ hA, N.c, fun _ e => e, kitW N (x := "NoWorth") (by decide +kernel), _, rfl, a, _, _, _, decide (("Ring" : Str) = one), rfl, m4 _ _ hA, N.c, fun _ e => e, kitW N (x := "Ring") (by decide +kernel), (by show 4 ≤ sizeLine; decide), fun p4 hp4 => ?_⟩
    have x_p4 : (upd H_r3 p4 (.lst [V.bl (decide (("NoTrait" : Str) = one)), V.bl (decide (("NoWord" : Str) = one)), V.bl (decide (("NoWorth" : Str) = one)), V.bl (decide (("Ring" : Str) = one))])) p4 = some (.lst [V.bl (decide (("NoTrait" : Str) = one)), V.bl (decide (("NoWord" : Str) = one)), V.bl (decide (("NoWorth" : Str) = one)), V.bl (decide (("Ring" : Str) = one))]) := upd_same
    have s_p4 : Same H_r3 (upd H_r3 p4 (.lst [V.bl (decide (("NoTrait" : Str) = one)), V.bl (decide (("NoWord" : Str) = one)), V.bl (decide (("NoWorth" : Str) = one)), V.bl (decide (("Ring" : Str) = one))])) := same_new hp4
    revert x_p4 s_p4
    generalize upd H_r3 p4 (.lst [V.bl (decide (("NoTrait" : Str) = one)), V.bl (decide (("NoWord" : Str) = one)), V.bl (decide (("NoWorth" : Str) = one)), V.bl (decide (("Ring" : Str) = one))]) = H_p4
    intro x_p4 s_p4
    refine ⟨_, _, _, _, rfl, rfl, s_p4 _ _ x_r3, x_p4, (by show 20 ≤ sizeLine; decide), fun r4 hr4 => ?_⟩
    have x_r4 : (upd H_p4 r4 (.lst ([V.bl (decide (("NoDeck" : Str) = one)), V.bl (decide (("NoDeed" : Str) = one)), V.bl (decide (("NoLink" : Str) = one)), V.bl (decide (("NoMaster" : Str) = one))] ++ [V.bl (decide (("NoName" : Str) = one)), V.bl (decide (("NoNumber" : Str) = one)), V.bl (decide (("NoPlace" : Str) = one)), V.bl (decide (("NoPress" : Str) = one))] ++ [V.bl (decide (("NoRoom" : Str) = one)), V.bl (decide (("NoRow" : Str) = one)), V.bl (decide (("NoSetting" : Str) = one)), V.bl (decide (("NoShow" : Str) = one))] ++ [V.bl (decide (("NoSlide" : Str) = one)), V.bl (decide (("NoSteps" : Str) = one)), V.bl (decide (("NoText" : Str) = one)), V.bl (decide (("NoTime" : Str) = one))] ++ [V.bl (decide (("NoTrait" : Str) = one)), V.bl (decide (("NoWord" : Str) = one)), V.bl (decide (("NoWorth" : Str) = one)), V.bl (decide (("Ring" : Str) = one))]))) r4 = some (.lst ([V.bl (decide (("NoDeck" : Str) = one)), V.bl (decide (("NoDeed" : Str) = one)), V.bl (decide (("NoLink" : Str) = one)), V.bl (decide (("NoMaster" : Str) = one))] ++ [V.bl (decide (("NoName" : Str) = one)), V.bl (decide (("NoNumber" : Str) = one)), V.bl (decide (("NoPlace" : Str) = one)), V.bl (decide (("NoPress" : Str) = one))] ++ [V.bl (decide (("NoRoom" : Str) = one)), V.bl (decide (("NoRow" : Str) = one)), V.bl (decide (("NoSetting" : Str) = one)), V.bl (decide (("NoShow" : Str) = one))] ++ [V.bl (decide (("NoSlide" : Str) = one)), V.bl (decide (("NoSteps" : Str) = one)), V.bl (decide (("NoText" : Str) = one)), V.bl (decide (("NoTime" : Str) = one))] ++ [V.bl (decide (("NoTrait" : Str) = one)), V.bl (decide (("NoWord" : Str) = one)), V.bl (decide (("NoWorth" : Str) = one)), V.bl (decide (("Ring" : Str) = one))])) := upd_same
    have s_r4 : Same H_p4 (upd H_p4 r4 (.lst ([V.bl (decide (("NoDeck" : Str) = one)), V.bl (decide (("NoDeed" : Str) = one)), V.bl (decide (("NoLink" : Str) = one)), V.bl (decide (("NoMaster" : Str) = one))] ++ [V.bl (decide (("NoName" : Str) = one)), V.bl (decide (("NoNumber" : Str) = one)), V.bl (decide (("NoPlace" : Str) = one)), V.bl (decide (("NoPress" : Str) = one))] ++ [V.bl (decide (("NoRoom" : Str) = one)), V.bl (decide (("NoRow" : Str) = one)), V.bl (decide (("NoSetting" : Str) = one)), V.bl (decide (("NoShow" : Str) = one))] ++ [V.bl (decide (("NoSlide" : Str) = one)), V.bl (decide (("NoSteps" : Str) = one)), V.bl (decide (("NoText" : Str) = one)), V.bl (decide (("NoTime" : Str) = one))] ++ [V.bl (decide (("NoTrait" : Str) = one)), V.bl (decide (("NoWord" : Str) = one)), V.bl (decide (("NoWorth" : Str) = one)), V.bl (decide (("Ring" : Str) = one))]))) := same_new hr4
    revert x_r4 s_r4
    generalize upd H_p4 r4 (.lst ([V.bl (decide (("NoDeck" : Str) = one)), V.bl (decide (("NoDeed" : Str) = one)), V.bl (decide (("NoLink" : Str) = one)), V.bl (decide (("NoMaster" : Str) = one))] ++ [V.bl (decide (("NoName" : Str) = one)), V.bl (decide (("NoNumber" : Str) = one)), V.bl (decide (("NoPlace" : Str) = one)), V.bl (decide (("NoPress" : Str) = one))] ++ [V.bl (decide (("NoRoom" : Str) = one)), V.bl (decide (("NoRow" : Str) = one)), V.bl (decide (("NoSetting" : Str) = one)), V.bl (decide (("NoShow" : Str) = one))] ++ [V.bl (decide (("NoSlide" : Str) = one)), V.bl (decide (("NoSteps" : Str) = one)), V.bl (decide (("NoText" : Str) = one)), V.bl (decide (("NoTime" : Str) = one))] ++ [V.bl (decide (("NoTrait" : Str) = one)), V.bl (decide (("NoWord" : Str) = one)), V.bl (decide (("NoWorth" : Str) = one)), V.bl (decide (("Ring" : Str) = one))])) = H_r4
    intro x_r4 s_r4
    have m5 := (m4.trans s_p4).trans s_r4
    refine ⟨_, rfl, _, rfl, a, _, _, _, decide (("Taken" : Str) = one), rfl, m5 _ _ hA, N.c, fun _ e => e, kitW N (x := "Taken") (by decide +kernel), _, rfl, a, _, _, _, decide (("TooMany" : Str) = one), rfl, m5 _ _ hA, N.c, fun _ e => e, kitW N (x := "TooMany") (by decide +kernel), _, rfl, a, _, _, _, decide (("Used" : Str) = one), rfl, m5 _ _ hA, N.c, fun _ e => e, kitW N (x := "Used") (by decide +kernel), (by show 3 ≤ sizeLine; decide), fun p5 hp5 => ?_⟩
    have x_p5 : (upd H_r4 p5 (.lst [V.bl (decide (("Taken" : Str) = one)), V.bl (decide (("TooMany" : Str) = one)), V.bl (decide (("Used" : Str) = one))])) p5 = some (.lst [V.bl (decide (("Taken" : Str) = one)), V.bl (decide (("TooMany" : Str) = one)), V.bl (decide (("Used" : Str) = one))]) := upd_same
    have s_p5 : Same H_r4 (upd H_r4 p5 (.lst [V.bl (decide (("Taken" : Str) = one)), V.bl (decide (("TooMany" : Str) = one)), V.bl (decide (("Used" : Str) = one))])) := same_new hp5
    revert x_p5 s_p5
    generalize upd H_r4 p5 (.lst [V.bl (decide (("Taken" : Str) = one)), V.bl (decide (("TooMany" : Str) = one)), V.bl (decide (("Used" : Str) = one))]) = H_p5
    intro x_p5 s_p5
    refine ⟨_, _, _, _, rfl, rfl, s_p5 _ _ x_r4, x_p5, (by show 23 ≤ sizeLine; decide), fun r5 hr5 => ?_⟩
    have x_r5 : (upd H_p5 r5 (.lst ([V.bl (decide (("NoDeck" : Str) = one)), V.bl (decide (("NoDeed" : Str) = one)), V.bl (decide (("NoLink" : Str) = one)), V.bl (decide (("NoMaster" : Str) = one))] ++ [V.bl (decide (("NoName" : Str) = one)), V.bl (decide (("NoNumber" : Str) = one)), V.bl (decide (("NoPlace" : Str) = one)), V.bl (decide (("NoPress" : Str) = one))] ++ [V.bl (decide (("NoRoom" : Str) = one)), V.bl (decide (("NoRow" : Str) = one)), V.bl (decide (("NoSetting" : Str) = one)), V.bl (decide (("NoShow" : Str) = one))] ++ [V.bl (decide (("NoSlide" : Str) = one)), V.bl (decide (("NoSteps" : Str) = one)), V.bl (decide (("NoText" : Str) = one)), V.bl (decide (("NoTime" : Str) = one))] ++ [V.bl (decide (("NoTrait" : Str) = one)), V.bl (decide (("NoWord" : Str) = one)), V.bl (decide (("NoWorth" : Str) = one)), V.bl (decide (("Ring" : Str) = one))] ++ [V.bl (decide (("Taken" : Str) = one)), V.bl (decide (("TooMany" : Str) = one)), V.bl (decide (("Used" : Str) = one))]))) r5 = some (.lst ([V.bl (decide (("NoDeck" : Str) = one)), V.bl (decide (("NoDeed" : Str) = one)), V.bl (decide (("NoLink" : Str) = one)), V.bl (decide (("NoMaster" : Str) = one))] ++ [V.bl (decide (("NoName" : Str) = one)), V.bl (decide (("NoNumber" : Str) = one)), V.bl (decide (("NoPlace" : Str) = one)), V.bl (decide (("NoPress" : Str) = one))] ++ [V.bl (decide (("NoRoom" : Str) = one)), V.bl (decide (("NoRow" : Str) = one)), V.bl (decide (("NoSetting" : Str) = one)), V.bl (decide (("NoShow" : Str) = one))] ++ [V.bl (decide (("NoSlide" : Str) = one)), V.bl (decide (("NoSteps" : Str) = one)), V.bl (decide (("NoText" : Str) = one)), V.bl (decide (("NoTime" : Str) = one))] ++ [V.bl (decide (("NoTrait" : Str) = one)), V.bl (decide (("NoWord" : Str) = one)), V.bl (decide (("NoWorth" : Str) = one)), V.bl (decide (("Ring" : Str) = one))] ++ [V.bl (decide (("Taken" : Str) = one)), V.bl (decide (("TooMany" : Str) = one)), V.bl (decide (("Used" : Str) = one))])) := upd_same
    have s_r5 : Same H_p5 (upd H_p5 r5 (.lst ([V.bl (decide (("NoDeck" : Str) = one)), V.bl (decide (("NoDeed" : Str) = one)), V.bl (decide (("NoLink" : Str) = one)), V.bl (decide (("NoMaster" : Str) = one))] ++ [V.bl (decide (("NoName" : Str) = one)), V.bl (decide (("NoNumber" : Str) = one)), V.bl (decide (("NoPlace" : Str) = one)), V.bl (decide (("NoPress" : Str) = one))] ++ [V.bl (decide (("NoRoom" : Str) = one)), V.bl (decide (("NoRow" : Str) = one)), V.bl (decide (("NoSetting" : Str) = one)), V.bl (decide (("NoShow" : Str) = one))] ++ [V.bl (decide (("NoSlide" : Str) = one)), V.bl (decide (("NoSteps" : Str) = one)), V.bl (decide (("NoText" : Str) = one)), V.bl (decide (("NoTime" : Str) = one))] ++ [V.bl (decide (("NoTrait" : Str) = one)), V.bl (decide (("NoWord" : Str) = one)), V.bl (decide (("NoWorth" : Str) = one)), V.bl (decide (("Ring" : Str) = one))] ++ [V.bl (decide (("Taken" : Str) = one)), V.bl (decide (("TooMany" : Str) = one)), V.bl (decide (("Used" : Str) = one))]))) := same_new hr5
    revert x_r5 s_r5
    generalize upd H_p5 r5 (.lst ([V.bl (decide (("NoDeck" : Str) = one)), V.bl (decide (("NoDeed" : Str) = one)), V.bl (decide (("NoLink" : Str) = one)), V.bl (decide (("NoMaster" : Str) = one))] ++ [V.bl (decide (("NoName" : Str) = one)), V.bl (decide (("NoNumber" : Str) = one)), V.bl (decide (("NoPlace" : Str) = one)), V.bl (decide (("NoPress" : Str) = one))] ++ [V.bl (decide (("NoRoom" : Str) = one)), V.bl (decide (("NoRow" : Str) = one)), V.bl (decide (("NoSetting" : Str) = one)), V.bl (decide (("NoShow" : Str) = one))] ++ [V.bl (decide (("NoSlide" : Str) = one)), V.bl (decide (("NoSteps" : Str) = one)), V.bl (decide (("NoText" : Str) = one)), V.bl (decide (("NoTime" : Str) = one))] ++ [V.bl (decide (("NoTrait" : Str) = one)), V.bl (decide (("NoWord" : Str) = one)), V.bl (decide (("NoWorth" : Str) = one)), V.bl (decide (("Ring" : Str) = one))] ++ [V.bl (decide (("Taken" : Str) = one)), V.bl (decide (("TooMany" : Str) = one)), V.bl (decide (("Used" : Str) = one))])) = H_r5
    intro x_r5 s_r5
    have m6 := (m5.trans s_p5).trans s_r5
    have eW := ((((((((((s_p0.trans s_p1).trans s_r1).trans s_p2).trans s_r2).trans s_p3).trans s_r3).trans s_p4).trans s_r4).trans s_p5).trans s_r5) _ _ eW
    have xs : H_r5 r5 = some (.lst (CLS.map (fl one))) := x_r5
    clear x_r5 x_r4 x_r3 x_r2 x_r1 x_p0 x_p1 x_p2 x_p3 x_p4 x_p5
    obtain ⟨c1, c2, c3, _, c5⟩ := fl_facts one N.m
    have c4 := fl_not N.m
    revert xs c1 c2 c3 c4
    generalize CLS.map (fl one) = bs
    intro xs c1 c2 c3 c4
    refine ⟨_, rfl, .inl ⟨rfl, _, SqL.of xs⟩, r5, bs, .bl true, rfl, rfl, SqL.of xs, rfl, c2, ?_⟩
    rw [c1]
    refine ⟨rfl, _, rfl, iteF ?_⟩
    refine ⟨_, rfl, a, _, .ty "ValueError", .type "ValueError", true, rfl, m6 _ _ hA, N.c, fun _ e => e, N.kv, _, rfl, iteF ?_⟩
    refine ⟨_, rfl, _, rfl, .inl ⟨rfl, _, SqL.of xs⟩, r5, bs, .bl true, rk one CLS, .bl true, rfl, rfl, SqL.of xs, rfl, c2, c3, rfl, c4, ?_⟩
    refine ⟨W, _, _, .str (wordOf one), rfl, rfl, SqL.of eW, at_any (j := rk one CLS) rfl ?_, q _ m6⟩
    rw [← List.map_append, List.getElem?_map, c5] <;> rfl

end
end K34

set_option Elab.async false
set_option linter.all false
set_option maxRecDepth 100000
set_option maxHeartbeats 2000000
namespace K34
open PySem PySem.Spec PyProof.Rows L2 GxR Gx Gd Gn Gm Gc Gk Gs Gv Gw Gt Gb
abbrev slaw_size : Stmt := top 53
theorem sclaw_size : FnScope ["lines", "wide", "high", "size", "one"] ["lines", "wide", "high", "size"] (defScope slaw_size) := ⟨rfl, rfl, rfl, by decide +kernel, rfl, by decide +kernel, by decide +kernel⟩
abbrev slaw_told : Stmt := top 55
theorem sclaw_told : FnScope ["lines", "wide", "high", "size", "kept", "found", "e"] ["lines", "wide", "high", "size"] (defScope slaw_told) := ⟨rfl, rfl, rfl, by decide +kernel, rfl, by decide +kernel, by decide +kernel⟩
section
variable {P : Program} {w : World} {K : PySem.W.Frag} {mg : Str → Option Value} {base : Heap}
/-! ### the greatest size, by the asker's own -/
def spSizeT (K : PySem.W.Frag) : Sp := fun vs H Q _ => ∃ (a : Addr) (x y s : Nat) (zs : List Str), vs = [.ref a, .int (x : Int), .int (y : Int), .int (s : Int)] ∧ SqT K H a (zs.map V.str) ∧ zs.length ≤ 100 ∧ (∀ z ∈ zs, z.length ≤ 1000) ∧ x ≤ 1000 ∧ s ≤ 1000 ∧ ∀ H', Same H H' → Q (optV (great (fitB zs x y) s)) H'
theorem ok_sizeT {f : Addr} {fd : FuncData} (F : FnP K "_law_size" slaw_size f fd) (T : Txt mg) (D_law_rows : Dn P w K mg base 1 "_law_rows" ["lines", "wide"] (spRowsT K)) : FnOk P w K mg base CX0 2 f fd ["lines", "wide", "high", "size"] (spSizeT K) := by
  refine okN F sclaw_size (fun vs H Q E h => ?_) (fun cdv A outer s H vs Q E hr h => ?_)
  · obtain ⟨a, x, y, s, zs, rfl, _⟩ := h
    rfl
  · obtain ⟨a, x, y, s, zs, rfl, ha, lz, hz, hx, hs, q⟩ := h
    refine ⟨_, (pss_cons (ps_for PassesOwn.never rfl (pi_range3 rfl T.m_range (pa_cons (pv 3) (pa_cons pe_int (pa_cons (pe_un un_neg pe_int) pa_nil)))) (pg_name (i := 4) sclaw_size.nd rfl (Or.inl rfl)) (pss_one (ps_if (PW.pt (pw_and (pt_cmpR op_ge (pe_op op_fdiv (pv 1) (pv 4)) pe_int (nomark _)) (pw_and1 (pt_cmpR op_le (pe_callB call_len_seq (by rfl) T.m_len (by decide +kernel) (pa_cons (pe_dn D_law_rows (hr.mono (by decide)) rfl (pa_cons (pv 0) (pa_cons (pe_op op_fdiv (pv 1) (pv 4)) pa_nil))) pa_nil)) (pe_op op_fdiv (pv 2) (pv 4)) (nomark _))))) (pss_one (ps_ret (pv 4))) pss_nil)))
      (pss_one (ps_ret pe_non))), ?_⟩
    refine ⟨_, rfl, _, rfl, _, _, _, _, rfl, RgC.neg (by omega) (by omega) (by decide) (by decide), ?_⟩
    have en : ((s : Int) - 0).toNat = s := by omega
    rw [en]
    refine for_rangeC (fun i σ H1 => ∃ v4 : Option V, σ = [some (.ref a), some (.int (x : Int)), some (.int (y : Int)), some (.int (s : Int)), v4] ∧ Same H H1 ∧ great (fitB zs x y) s = great (fitB zs x y) (s - i)) ?_ ?_ ?_
    · exact ⟨none, rfl, Same.refl _, rfl⟩
    · rintro i σ H1 hi ⟨v4, rfl, s1, e1⟩
      have ev : (s : Int) + ((i : Nat) : Int) * -1 = ((s - i : Nat) : Int) := by omega
      rw [ev]
      obtain ⟨t, et⟩ : ∃ t : Nat, t = s - i := ⟨_, rfl⟩
      rw [← et] at e1 ⊢
      have t1 : 1 ≤ t := by omega
      have cd : CDiv (x : Int) (t : Int) := ⟨by omega, by omega⟩
      have cd2 : CDiv (y : Int) (t : Int) := ⟨by omega, by omega⟩
      have ef : fitB zs x y t = (decide (1 ≤ x / t) && decide ((rowsM (x / t) zs).length ≤ y / t)) := rfl
      have fin : ∀ H2, Same H H2 → fitB zs x y t = false → ∃ v4 : Option V, [some (V.ref a), some (V.int (x : Int)), some (V.int (y : Int)), some (V.int (s : Int)), some (V.int (t : Int))] = [some (V.ref a), some (V.int (x : Int)), some (V.int (y : Int)), some (V.int (s : Int)), v4] ∧ Same H H2 ∧ great (fitB zs x y) s = great (fitB zs x y) (s - (i + 1)) := fun H2 s2 hb => ⟨_, rfl, s2, e1.trans (by
        have h := great_more hi (f := fitB zs x y) (by rw [← et]; exact hb)
        rw [← et] at h
        exact h)⟩
      refine ⟨_, rfl, _, rfl, _, _, rfl, rfl, cd, _, _, rfl, rfl, _, rfl, ?_⟩
      rw [show decide ((x : Int) / (t : Int) ≥ 1) = decide (1 ≤ x / t) from decide_eq_decide.mpr (by rw [idiv]; omega)]
      refine iteB (fun h1 => ?_) fun h1 => ?_
      · rw [h1] at ef
        have h1 := of_decide_eq_true h1
        have dx : x / t ≤ x := Nat.div_le_self _ _
        refine ⟨_, rfl, _, rfl, _, rfl, _, _, rfl, rfl, cd, a, x / t, zs, by show [V.ref a, V.int ((x : Int) / (t : Int))] = _; rw [idiv], sqT_same s1 ha, h1, by omega, lz, hz, fun R H2 s2 hR xR => ?_⟩
        refine ⟨R, _, rfl, .inl (SqL.of xR), _, rfl, _, rfl, _, _, rfl, rfl, cd2, _, _, rfl, rfl, _, rfl, ?_⟩
        rw [tx_len]
        rw [show decide (((rowsM (x / t) zs).length : Int) ≤ (y : Int) / (t : Int)) = decide ((rowsM (x / t) zs).length ≤ y / t) from decide_eq_decide.mpr (by rw [idiv]; omega)]
        rw [Bool.true_and] at ef
        rw [← ef]
        refine iteB (fun hb => ?_) fun hb => ?_
        · refine ⟨_, rfl, ?_⟩
          have q := q H2 (s1.trans s2)
          rw [e1, great_here t1 hb] at q
          exact q
        · exact fin H2 (s1.trans s2) hb
      · rw [h1] at ef
        exact fin H1 s1 ef
    · rintro σ H1 ⟨v4, rfl, s1, e1⟩
      have q := q H1 s1
      rw [e1, Nat.sub_self] at q
      exact q
theorem wo_room : wordOf "NoRoom" = "room" := by decide +kernel
/-- what is told: the size, or the word of what is refused -/
def toldV (zs : List Str) (x y s : V) : V := match x, y, s with
  | .int x', .int y', .int s' => if sizesB x y s = true then optV (great (fitB zs x'.toNat y'.toNat) s'.toNat) else .str "room"
  | _, _, _ => .str "room"
def spTold34 (K : PySem.W.Frag) (P' : Addr) : Sp := fun vs H Q _ => ∃ (a : Addr) (x y s : V) (zs : List Str), vs = [.ref a, x, y, s] ∧ SqA K H a (zs.map V.str) ∧ Ok1 H x ∧ Ok1 H y ∧ Ok1 H s ∧ TabG H P' ∧ zs.length ≤ 100 ∧ (∀ z ∈ zs, z.length ≤ 1000) ∧
  (sizesB x y s = false → ∀ H', Tk P' H H' → Q (.str "room") H') ∧ (∀ x' y' s' : Nat, x = .int (x' : Int) → y = .int (y' : Int) → s = .int (s' : Int) → sizesB x y s = true → ∀ H', Tk P' H H' → Q (optV (great (fitB zs x' y') s')) H')
theorem ok_told34 {f : Addr} {fd : FuncData} {P' : Addr} (F : FnP K "_law_told" slaw_told f fd) (T : Txt mg) (gD : mg "DeckError" = some (.ref (He.ga K "DeckError"))) (N : ErW K mg "NoRoom")
    (D_shrunk_to : DnS P w K mg base 6 "shrunk_to" ["lines", "wide", "high", "size"] (spShrunk K P')) (D_law_word : Dn P w K mg base 1 "_law_word" ["e"] (spWord K mg)) : FnOk P w K mg base CX0 7 f fd ["lines", "wide", "high", "size"] (spTold34 K P') := by
  refine okN F sclaw_told (fun vs H Q E h => ?_) (fun cdv A outer s H vs Q E hr h => ?_)
  · obtain ⟨a, x, y, s, zs, rfl, _⟩ := h
    rfl
  · obtain ⟨a, x, y, s, zs, rfl, ha, hx, hy, hs, hG, lz, hz, ko, q⟩ := h
    refine ⟨_, (pss_cons (ps_set (i := 4) sclaw_told.nd rfl (Or.inl rfl) pe_non)
      (pss_cons (ps_set (i := 5) sclaw_told.nd rfl (Or.inl rfl) pe_non)
      (pss_cons (ps_try_hold (i := 6) (tb := fun W => (tAsg _ (gName 5))) (ts := fun a cls d => tAsg (tVar 6) (gName 4)) (Wout := fun _ _ _ _ => False) rfl rfl rfl sclaw_told.nd rfl rfl ⟨rfl, by decide, .inl gD⟩ LamX.takes0 (fun W pn xe tk _ => (pss_one (ps_set (i := 5) sclaw_told.nd rfl (Or.inl rfl) (pe_dnS D_shrunk_to (hr.mono (by decide)) rfl (fun σ => passAt tk σ) (pa_cons (pv 0) (pa_cons (pv 1) (pa_cons (pv 2) (pa_cons (pv 3) pa_nil)))))))) (fun a oe cls d pn hz hf => (pss_one (ps_set (i := 4) sclaw_told.nd rfl (Or.inl rfl) (pv 6)))))
      (pss_cons (ps_if (pt_cmpR op_notN (pv 4) pe_non (nomark _)) (pss_one (ps_ret (pe_dn D_law_word (hr.mono (by decide)) rfl (pa_cons (pv 4) pa_nil)))) pss_nil)
      (pss_one (ps_ret (pe_ifExp (pt_val (pe_callB call_isiT (by rfl) T.m_isinstance (by decide +kernel) (pa_cons (pv 5) (pa_cons (pe_tup (pa_cons (pe_bltn (v := .ty "str") (u := .type "str") rfl T.m_str (by decide +kernel) rfl) (pa_cons (pe_bltn (v := .ty "bool") (u := .type "bool") rfl T.m_bool (by decide +kernel) rfl) pa_nil))) pa_nil)))) pe_str (pv 5)))))))), ?_⟩
    refine ⟨_, rfl, _, rfl, _, rfl, _, rfl, a, x, y, s, zs, rfl, ha, hx, hy, hs, hG, lz, hz, fun e H1 tk => ?_, fun x' y' s' ex ey es e H1 tk => ?_⟩
    · refine ⟨true, N.e, fun _ b hb => ?_, fun z => nomatch z⟩
      refine ⟨_, rfl, _, rfl, rfl, _, rfl, iteT ⟨_, rfl, b, "NoRoom", rfl, N, upd_same, fun H' s' => ?_⟩⟩
      have q := ko e H' (tk.trans (Tk.same tk.1 ((same_new hb).trans s')))
      rw [wo_room]
      exact q
    · refine ⟨_, rfl, rfl, _, rfl, iteF ?_⟩
      have q := q x' y' s' ex ey es e
      generalize great (fitB zs x' y') s' = g at q ⊢
      refine ⟨_, rfl, (by show 2 ≤ sizeLine; decide), fun tp htp => ?_⟩
      have q := q _ (tk.trans (Tk.same tk.1 (same_new (o := .tup [V.ty "str", V.ty "bool"]) htp)))
      cases g with
      | none =>
        refine ⟨_, tp, _, _, _, false, rfl, upd_same, .cons (.ty _) (.cons (.ty _) .nil), .base .non, kitAny_cons (kit_ty (a := "NoneType") (r := false) (by decide +kernel)) (fun _ => kitAny_cons (kit_ty (a := "NoneType") (r := false) (by decide +kernel)) (fun _ => kitAny_nil) (fun z => nomatch z)) (fun z => nomatch z), _, rfl, iteF ⟨_, rfl, ?_⟩⟩
        exact q
      | some t =>
        refine ⟨_, tp, _, _, _, false, rfl, upd_same, .cons (.ty _) (.cons (.ty _) .nil), .base (.int _), kitAny_cons (kit_ty (a := "int") (r := false) (by decide +kernel)) (fun _ => kitAny_cons (kit_ty (a := "int") (r := false) (by decide +kernel)) (fun _ => kitAny_nil) (fun z => nomatch z)) (fun z => nomatch z), _, rfl, iteF ⟨_, rfl, ?_⟩⟩
        exact q

end
end K34

set_option Elab.async false
set_option linter.all false
set_option maxRecDepth 100000
set_option maxHeartbeats 2000000
namespace K34
open PySem PySem.Spec PyProof.Rows L2 GxR Gx Gd Gn Gm Gc Gk Gs Gv Gw Gt Gb
abbrev slaw : Stmt := top 56
theorem sclaw : FnScope ["script", "pen", "k", "lines", "wide", "high", "size", "due", "handed", "some", "change", "room", "most", "odd", "far"] ["script"] (defScope slaw) := ⟨rfl, rfl, rfl, by decide +kernel, rfl, by decide +kernel, by decide +kernel⟩
section
variable {P : Program} {w : World} {K : PySem.W.Frag} {mg : Str → Option Value} {base : Heap}
/-! ### the law -/
def spLaw (K : PySem.W.Frag) (P' : Addr) : Sp := fun vs H Q _ => ∃ (a : Addr) (ns : List Int), vs = [.ref a] ∧ SqL K H a (ns.map V.int) ∧ ns.length ≤ 63 ∧ TabG H P' ∧ ∀ H', Q (.bl true) H'
theorem ne_self {v : V} : (!decide (v = v)) = false := by rw [decide_eq_true rfl] <;> rfl
theorem scal_opt : ∀ g : Option Nat, scal (optV g) (optV g) = true
  | none => rfl
  | some _ => rfl
theorem natOf {i : Int} {m : Nat} (h0 : 1 ≤ i) (h1 : i ≤ (m : Int)) : ∃ n : Nat, i = (n : Int) ∧ 1 ≤ n ∧ n ≤ m := ⟨i.toNat, by rw [Int.toNat_of_nonneg (by omega)], by omega, by omega⟩
theorem more_sz {x k : Int} {b : Bool} (hk : k = 7 ∨ k = 3) (h0 : 1 ≤ x) (h1 : x ≤ 999) : ∃ n : Nat, (if x + (if b = true then 1 else 0) * k < 999 then x + (if b = true then 1 else 0) * k else 999) = (n : Int) ∧ 1 ≤ n ∧ n ≤ 999 := by
  refine natOf ?_ ?_
  · cases b <;> rcases hk with rfl | rfl <;> (simp only [if_true, Bool.false_eq_true, if_false]; split <;> omega)
  · cases b <;> rcases hk with rfl | rfl <;> (simp only [if_true, Bool.false_eq_true, if_false]; split <;> omega)
theorem less_sz {x : Int} {b : Bool} (h0 : 1 ≤ x) (h1 : x ≤ 99) : ∃ n : Nat, (if x - (if b = true then 1 else 0) > 1 then x - (if b = true then 1 else 0) else 1) = (n : Int) ∧ 1 ≤ n ∧ n ≤ 99 := by
  refine natOf ?_ ?_
  · cases b <;> (simp only [if_true, Bool.false_eq_true, if_false]; split <;> omega)
  · cases b <;> (simp only [if_true, Bool.false_eq_true, if_false]; split <;> omega)
theorem okI {H : Hp} (i : Int) : Ok1 H (.int i) := ⟨.int _, fun _ e => nomatch e⟩
theorem sizes_ok {x y s : Nat} (x1 : 1 ≤ x) (x2 : x ≤ 999) (y1 : 1 ≤ y) (y2 : y ≤ 999) (s1 : 1 ≤ s) (s2 : s ≤ 99) : sizesB (.int (x : Int)) (.int (y : Int)) (.int (s : Int)) = true := by
  have e1 : worthB "wide" (.int (x : Int)) = true := by
    show (decide ((1 : Int) ≤ (x : Int)) && decide ((x : Int) ≤ 999)) = true
    rw [decide_eq_true (by omega), decide_eq_true (by omega)] <;> rfl
  have e2 : worthB "high" (.int (y : Int)) = true := by
    show (decide ((1 : Int) ≤ (y : Int)) && decide ((y : Int) ≤ 999)) = true
    rw [decide_eq_true (by omega), decide_eq_true (by omega)] <;> rfl
  have e3 : worthB "size" (.int (s : Int)) = true := by
    show (decide ((1 : Int) ≤ (s : Int)) && decide ((s : Int) ≤ 99)) = true
    rw [decide_eq_true (by omega), decide_eq_true (by omega)] <;> rfl
  unfold sizesB
  rw [e1, e2, e3] <;> rfl
theorem ok_law {f : Addr} {fd : FuncData} {P' : Addr} (F : FnP K "law" slaw f fd) (T : Txt mg) (D_law_pen : Dn P w K mg base 1 "_law_pen" ["script"] (spPen K)) (D_law_draw : Dn P w K mg base 1 "_law_draw" ["pen", "many"] spDraw)
    (D_law_lines : Dn P w K mg base 3 "_law_lines" ["pen"] spLines) (D_law_size : Dn P w K mg base 2 "_law_size" ["lines", "wide", "high", "size"] (spSizeT K)) (D_law_told : Dn P w K mg base 7 "_law_told" ["lines", "wide", "high", "size"] (spTold34 K P')) : FnOk P w K mg base CX0 8 f fd ["script"] (spLaw K P') := by
  refine okN F sclaw (fun vs H Q E h => ?_) (fun cdv A outer s H vs Q E hr h => ?_)
  · obtain ⟨a, ns, rfl, _⟩ := h
    rfl
  · obtain ⟨a, ns, rfl, hS, hl, hG, q⟩ := h
    refine ⟨_, (pss_cons (ps_set (i := 1) sclaw.nd rfl (Or.inl rfl) (pe_dn D_law_pen (hr.mono (by decide)) rfl (pa_cons (pv 0) pa_nil)))
      (pss_cons (ps_for PassesOwn.never rfl (pi_range1 rfl T.m_range (pa_cons (pe_op op_add pe_int (pe_dn D_law_draw (hr.mono (by decide)) rfl (pa_cons (pv 1) (pa_cons pe_int pa_nil)))) pa_nil)) (pg_name (i := 2) sclaw.nd rfl (Or.inl rfl)) (pss_cons (ps_set (i := 3) sclaw.nd rfl (Or.inl rfl) (pe_dn D_law_lines (hr.mono (by decide)) rfl (pa_cons (pv 1) pa_nil)))
      (pss_cons (ps_set (i := 4) sclaw.nd rfl (Or.inl rfl) (pe_ix ix_list (pe_lst (pa_cons (pe_op op_add pe_int (pe_dn D_law_draw (hr.mono (by decide)) rfl (pa_cons (pv 1) (pa_cons pe_int pa_nil)))) (pa_cons (pe_op op_add pe_int (pe_dn D_law_draw (hr.mono (by decide)) rfl (pa_cons (pv 1) (pa_cons pe_int pa_nil)))) (pa_cons pe_int pa_nil)))) (pe_dn D_law_draw (hr.mono (by decide)) rfl (pa_cons (pv 1) (pa_cons pe_int pa_nil))) (fun _ _ => rfl)))
      (pss_cons (ps_set (i := 5) sclaw.nd rfl (Or.inl rfl) (pe_ix ix_list (pe_lst (pa_cons (pe_op op_add pe_int (pe_dn D_law_draw (hr.mono (by decide)) rfl (pa_cons (pv 1) (pa_cons pe_int pa_nil)))) (pa_cons (pe_op op_add pe_int (pe_dn D_law_draw (hr.mono (by decide)) rfl (pa_cons (pv 1) (pa_cons pe_int pa_nil)))) (pa_cons pe_int pa_nil)))) (pe_dn D_law_draw (hr.mono (by decide)) rfl (pa_cons (pv 1) (pa_cons pe_int pa_nil))) (fun _ _ => rfl)))
      (pss_cons (ps_set (i := 6) sclaw.nd rfl (Or.inl rfl) (pe_ix ix_list (pe_lst (pa_cons pe_int (pa_cons (pe_op op_add pe_int (pe_dn D_law_draw (hr.mono (by decide)) rfl (pa_cons (pv 1) (pa_cons pe_int pa_nil)))) (pa_cons (pe_op op_add pe_int (pe_dn D_law_draw (hr.mono (by decide)) rfl (pa_cons (pv 1) (pa_cons pe_int pa_nil)))) (pa_cons pe_int pa_nil))))) (pe_dn D_law_draw (hr.mono (by decide)) rfl (pa_cons (pv 1) (pa_cons pe_int pa_nil))) (fun _ _ => rfl)))
      (pss_cons (ps_set (i := 7) sclaw.nd rfl (Or.inl rfl) (pe_dn D_law_size (hr.mono (by decide)) rfl (pa_cons (pv 3) (pa_cons (pv 4) (pa_cons (pv 5) (pa_cons (pv 6) pa_nil))))))
      (pss_cons (ps_set (i := 8) sclaw.nd rfl (Or.inl rfl) (pe_callTy call_list_of (by rfl) T.m_list (by decide +kernel) (pa_cons (pv 3) pa_nil)))
      (pss_cons (ps_for PassesOwn.never rfl (pi_tup (pe_tup (pa_cons (pv 3) (pa_cons (pv 8) (pa_cons (pv 3) pa_nil))))) (pg_name (i := 9) sclaw.nd rfl (Or.inl rfl)) (pss_one (ps_if (PW.pt (pw_or (pt_cmpR op_ne (pe_dn D_law_told (hr.mono (by decide)) rfl (pa_cons (pv 9) (pa_cons (pv 4) (pa_cons (pv 5) (pa_cons (pv 6) pa_nil))))) (pv 7) (nomark _)) (pw_or1 (pt_cmpR (op_neD hr.units) (pv 8) (pe_callTy call_list_of (by rfl) T.m_list (by decide +kernel) (pa_cons (pv 3) pa_nil)) (nomark _))))) (pss_one (ps_ret pe_bl)) pss_nil)))
      (pss_cons (ps_for PassesOwn.never rfl (pi_range1 rfl T.m_range (pa_cons pe_int pa_nil)) (pg_name (i := 10) sclaw.nd rfl (Or.inl rfl)) (pss_cons (ps_set (i := 11) sclaw.nd rfl (Or.inl rfl) (pe_lst (pa_cons (pe_callB (call_min2 rfl) (by rfl) T.m_min (by decide +kernel) (pa_cons pe_int (pa_cons (pe_op op_add (pv 4) (pe_op op_mul (pe_callTy call_int1 (by rfl) T.m_int (by decide +kernel) (pa_cons (pe_cmpR op_eq (pv 10) pe_int (nomark _)) pa_nil)) pe_int)) pa_nil))) (pa_cons (pe_callB (call_min2 rfl) (by rfl) T.m_min (by decide +kernel) (pa_cons pe_int (pa_cons (pe_op op_add (pv 5) (pe_op op_mul (pe_callTy call_int1 (by rfl) T.m_int (by decide +kernel) (pa_cons (pe_cmpR op_eq (pv 10) pe_int (nomark _)) pa_nil)) pe_int)) pa_nil))) pa_nil))))
      (pss_cons (ps_set (i := 12) sclaw.nd rfl (Or.inl rfl) (pe_callB (call_max2 rfl) (by rfl) T.m_max (by decide +kernel) (pa_cons pe_int (pa_cons (pe_op op_sub (pv 6) (pe_callTy call_int1 (by rfl) T.m_int (by decide +kernel) (pa_cons (pe_cmpR op_eq (pv 10) pe_int (nomark _)) pa_nil))) pa_nil))))
      (pss_cons (ps_set (i := 9) sclaw.nd rfl (Or.inl rfl) (pe_ifExp (PW.pt (pw_and (pt_cmpR op_eq (pv 10) pe_int (nomark _)) (pw_and1 (pt_cmpR op_lt (pe_callB call_len_seq (by rfl) T.m_len (by decide +kernel) (pa_cons (pv 3) pa_nil)) pe_int (nomark _))))) (pe_op op_catA (pv 3) (pe_tup (pa_cons pe_str pa_nil))) (pv 3)))
      (pss_one (ps_if (pt_cmpR op_ne (pe_dn D_law_told (hr.mono (by decide)) rfl (pa_cons (pv 9) (pa_cons (pe_ix ix_list (pv 11) pe_int (fun _ _ => rfl)) (pa_cons (pe_ix ix_list (pv 11) pe_int (fun _ _ => rfl)) (pa_cons (pv 12) pa_nil))))) (pe_dn D_law_size (hr.mono (by decide)) rfl (pa_cons (pv 9) (pa_cons (pe_ix ix_list (pv 11) pe_int (fun _ _ => rfl)) (pa_cons (pe_ix ix_list (pv 11) pe_int (fun _ _ => rfl)) (pa_cons (pv 12) pa_nil))))) (nomark _)) (pss_one (ps_ret pe_bl)) pss_nil))))))
      (pss_cons (ps_set (i := 13) sclaw.nd rfl (Or.inl rfl) (pe_ix ix_list (pe_lst (pa_cons pe_int (pa_cons (pe_un un_neg pe_int) (pa_cons pe_int (pa_cons pe_bl (pa_cons pe_non (pa_cons pe_str (pa_cons (pe_lst (pa_cons pe_int pa_nil)) pa_nil)))))))) (pe_dn D_law_draw (hr.mono (by decide)) rfl (pa_cons (pv 1) (pa_cons pe_int pa_nil))) (fun _ _ => rfl)))
      (pss_cons (ps_set (i := 14) sclaw.nd rfl (Or.inl rfl) (pe_ix ix_list (pe_lst (pa_cons pe_int (pa_cons pe_int (pa_cons pe_bl (pa_cons pe_non (pa_cons pe_str pa_nil)))))) (pe_dn D_law_draw (hr.mono (by decide)) rfl (pa_cons (pv 1) (pa_cons pe_int pa_nil))) (fun _ _ => rfl)))
      (pss_one (ps_for PassesOwn.never rfl (pi_list (pe_lst (pa_cons (pe_tup (pa_cons (pv 13) (pa_cons (pv 5) (pa_cons (pv 6) pa_nil)))) (pa_cons (pe_tup (pa_cons (pv 4) (pa_cons (pv 13) (pa_cons (pv 6) pa_nil)))) (pa_cons (pe_tup (pa_cons (pv 4) (pa_cons (pv 5) (pa_cons (pv 14) pa_nil)))) (pa_cons (pe_tup (pa_cons (pv 13) (pa_cons (pv 13) (pa_cons (pv 14) pa_nil)))) pa_nil)))))) (pg_name (i := 9) sclaw.nd rfl (Or.inl rfl)) (pss_one (ps_if (pt_cmpR op_ne (pe_dn D_law_told (hr.mono (by decide)) rfl (pa_cons (pv 3) (pa_cons (pe_ix ix_tup (pv 9) pe_int (fun _ _ => rfl)) (pa_cons (pe_ix ix_tup (pv 9) pe_int (fun _ _ => rfl)) (pa_cons (pe_ix ix_tup (pv 9) pe_int (fun _ _ => rfl)) pa_nil))))) pe_str (nomark _)) (pss_one (ps_ret pe_bl)) pss_nil)))))))))))))))
      (pss_one (ps_ret pe_bl)))), ?_⟩
    refine ⟨_, rfl, a, ns, rfl, hS, hl, fun p L H1 np nL hP1 s1 => ?_⟩
    have g1 := tabSame hG s1
    refine ⟨_, rfl, p, L, ns, 0, 10, rfl, hP1, (by decide), (by decide), (by decide), fun k2 H2 k20 k21 hP2 b2 => ?_⟩
    have g2 := hP1.tab g1 b2.kp
    refine ⟨_, _, rfl, rfl, 1 + k2, rfl, (by omega), (by omega), ?_⟩
    refine for_range (lo := 0) (n := (1 + k2).toNat) (fun i σ H3 => ∃ v2 v3 v4 v5 v6 v7 v8 v9 v10 v11 v12 v13 v14 : Option V, σ = [some (.ref a), some (.ref p), v2, v3, v4, v5, v6, v7, v8, v9, v10, v11, v12, v13, v14] ∧ Pen H3 p L ns (1 + 220 * i) ∧ TabG H3 P') ?_ ?_ ?_
    · exact ⟨none, none, none, none, none, none, none, none, none, none, none, none, none, rfl, hP2, g2⟩
    · clear hP2 g2 b2 hP1 g1 s1
      rintro i σ H3 hi ⟨v2, v3, v4, v5, v6, v7, v8, v9, v10, v11, v12, v13, v14, rfl, hP3, g3⟩
      have hi : i < 10 := by omega
      -- lines
      refine ⟨_, rfl, p, L, ns, _, rfl, hP3, (by omega), fun b zs H4 xb lz hz hP4 k4 => ?_⟩
      have g4 := hP3.tab g3 k4
      have nb : b ≠ p := fun e => by
        obtain ⟨_, _, h, _⟩ := hP4.at_
        rw [← e, xb] at h
        cases h
      have lens : ∀ z ∈ zs, z.length ≤ 1000 := fun z h => by have := (hz z h).1; omega
      have sgn : ∀ z ∈ zs, ∀ c ∈ cp z, c < 128 := fun z h c hc => by
        have h := (hz z h).2 c hc
        unfold gSign at h
        simp only [Bool.and_eq_true, Bool.not_eq_true', decide_eq_false_iff_not] at h
        omega
      clear hP3 g3 k4
      -- wide
      refine ⟨_, rfl, p, L, ns, _, 20, rfl, hP4, (by decide), (by decide), (by omega), fun k5 H5 k50 k51 hP5 b5 => ?_⟩
      refine ⟨_, _, rfl, rfl, ?_⟩
      refine ⟨_, rfl, p, L, ns, _, 999, rfl, hP5, (by decide), (by decide), (by omega), fun k6 H6 k60 k61 hP6 b6 => ?_⟩
      refine ⟨_, _, rfl, rfl, (by show 3 ≤ sizeLine; decide), fun M hM => ?_⟩
      have nM : M ≠ p := hP6.lt_new hM
      have kM := (b5.kp.trans b6.kp).trans (Kp.new (o := .lst [V.int (1 + k5), V.int (1 + k6), V.int 999]) hM)
      have xM : (upd H6 M (.lst [V.int (1 + k5), V.int (1 + k6), V.int 999])) M = some (.lst [V.int (1 + k5), V.int (1 + k6), V.int 999]) := upd_same
      have hPM := hP6.new (o := .lst [V.int (1 + k5), V.int (1 + k6), V.int 999]) hM
      revert kM xM hPM
      generalize upd H6 M (.lst [V.int (1 + k5), V.int (1 + k6), V.int 999]) = HM
      intro kM xM hPM
      refine ⟨_, rfl, p, L, ns, _, 3, rfl, hPM, (by decide), (by decide), (by omega), fun k7 H7 k70 k71 hP7 b7 => ?_⟩
      obtain ⟨y7, e7, m7⟩ := listAt (xs := [V.int (1 + k5), V.int (1 + k6), V.int 999]) k70 k71
      obtain ⟨x, rfl, x1, x2⟩ : ∃ x : Nat, y7 = .int (x : Int) ∧ 1 ≤ x ∧ x ≤ 999 := by
        simp only [List.mem_cons, List.not_mem_nil, or_false] at m7
        rcases m7 with rfl | rfl | rfl
        · obtain ⟨n, e, n1, n2⟩ := natOf (i := 1 + k5) (m := 999) (by omega) (by omega)
          exact ⟨n, by rw [e], n1, n2⟩
        · obtain ⟨n, e, n1, n2⟩ := natOf (i := 1 + k6) (m := 999) (by omega) (by omega)
          exact ⟨n, by rw [e], n1, n2⟩
        · exact ⟨999, rfl, by decide, by decide⟩
      refine ⟨M, _, _, _, rfl, rfl, SqL.of (b7.kp _ _ xM nM), e7, ?_⟩
      have k4 := kM.trans b7.kp
      have xb := k4 _ _ xb nb
      have g4 := hP4.tab g4 k4
      clear hP4 hP5 hP6 hPM kM xM nM hM b5 b6 b7 e7 m7 k4
      -- high
      refine ⟨_, rfl, p, L, ns, _, 12, rfl, hP7, (by decide), (by decide), (by omega), fun j5 G5 j50 j51 hQ5 c5 => ?_⟩
      refine ⟨_, _, rfl, rfl, ?_⟩
      refine ⟨_, rfl, p, L, ns, _, 999, rfl, hQ5, (by decide), (by decide), (by omega), fun j6 G6 j60 j61 hQ6 c6 => ?_⟩
      refine ⟨_, _, rfl, rfl, (by show 3 ≤ sizeLine; decide), fun M hM => ?_⟩
      have nM : M ≠ p := hQ6.lt_new hM
      have kM := (c5.kp.trans c6.kp).trans (Kp.new (o := .lst [V.int (1 + j5), V.int (1 + j6), V.int 999]) hM)
      have xM : (upd G6 M (.lst [V.int (1 + j5), V.int (1 + j6), V.int 999])) M = some (.lst [V.int (1 + j5), V.int (1 + j6), V.int 999]) := upd_same
      have hQM := hQ6.new (o := .lst [V.int (1 + j5), V.int (1 + j6), V.int 999]) hM
      revert kM xM hQM
      generalize upd G6 M (.lst [V.int (1 + j5), V.int (1 + j6), V.int 999]) = GM
      intro kM xM hQM
      refine ⟨_, rfl, p, L, ns, _, 3, rfl, hQM, (by decide), (by decide), (by omega), fun j7 G7 j70 j71 hQ7 c7 => ?_⟩
      obtain ⟨y7, e7, m7⟩ := listAt (xs := [V.int (1 + j5), V.int (1 + j6), V.int 999]) j70 j71
      obtain ⟨y, rfl, y1, y2⟩ : ∃ y : Nat, y7 = .int (y : Int) ∧ 1 ≤ y ∧ y ≤ 999 := by
        simp only [List.mem_cons, List.not_mem_nil, or_false] at m7
        rcases m7 with rfl | rfl | rfl
        · obtain ⟨n, e, n1, n2⟩ := natOf (i := 1 + j5) (m := 999) (by omega) (by omega)
          exact ⟨n, by rw [e], n1, n2⟩
        · obtain ⟨n, e, n1, n2⟩ := natOf (i := 1 + j6) (m := 999) (by omega) (by omega)
          exact ⟨n, by rw [e], n1, n2⟩
        · exact ⟨999, rfl, by decide, by decide⟩
      refine ⟨M, _, _, _, rfl, rfl, SqL.of (c7.kp _ _ xM nM), e7, ?_⟩
      have k4 := kM.trans c7.kp
      have xb := k4 _ _ xb nb
      have g4 := hP7.tab g4 k4
      clear hP7 hQ5 hQ6 hQM kM xM nM hM c5 c6 c7 e7 m7 k4
      -- size
      refine ⟨_, rfl, p, L, ns, _, 9, rfl, hQ7, (by decide), (by decide), (by omega), fun l5 F5 l50 l51 hR5 d5 => ?_⟩
      refine ⟨_, _, rfl, rfl, ?_⟩
      refine ⟨_, rfl, p, L, ns, _, 99, rfl, hR5, (by decide), (by decide), (by omega), fun l6 F6 l60 l61 hR6 d6 => ?_⟩
      refine ⟨_, _, rfl, rfl, (by show 4 ≤ sizeLine; decide), fun M hM => ?_⟩
      have nM : M ≠ p := hR6.lt_new hM
      have kM := (d5.kp.trans d6.kp).trans (Kp.new (o := .lst [V.int 1, V.int (1 + l5), V.int (1 + l6), V.int 99]) hM)
      have xM : (upd F6 M (.lst [V.int 1, V.int (1 + l5), V.int (1 + l6), V.int 99])) M = some (.lst [V.int 1, V.int (1 + l5), V.int (1 + l6), V.int 99]) := upd_same
      have hRM := hR6.new (o := .lst [V.int 1, V.int (1 + l5), V.int (1 + l6), V.int 99]) hM
      revert kM xM hRM
      generalize upd F6 M (.lst [V.int 1, V.int (1 + l5), V.int (1 + l6), V.int 99]) = FM
      intro kM xM hRM
      refine ⟨_, rfl, p, L, ns, _, 4, rfl, hRM, (by decide), (by decide), (by omega), fun l7 F7 l70 l71 hR7 d7 => ?_⟩
      obtain ⟨y7, e7, m7⟩ := listAt (xs := [V.int 1, V.int (1 + l5), V.int (1 + l6), V.int 99]) l70 l71
      obtain ⟨s, rfl, s1, s2⟩ : ∃ s : Nat, y7 = .int (s : Int) ∧ 1 ≤ s ∧ s ≤ 99 := by
        simp only [List.mem_cons, List.not_mem_nil, or_false] at m7
        rcases m7 with rfl | rfl | rfl | rfl
        · exact ⟨1, rfl, by decide, by decide⟩
        · obtain ⟨n, e, n1, n2⟩ := natOf (i := 1 + l5) (m := 99) (by omega) (by omega)
          exact ⟨n, by rw [e], n1, n2⟩
        · obtain ⟨n, e, n1, n2⟩ := natOf (i := 1 + l6) (m := 99) (by omega) (by omega)
          exact ⟨n, by rw [e], n1, n2⟩
        · exact ⟨99, rfl, by decide, by decide⟩
      refine ⟨M, _, _, _, rfl, rfl, SqL.of (d7.kp _ _ xM nM), e7, ?_⟩
      have k4 := kM.trans d7.kp
      have xb := k4 _ _ xb nb
      have g4 := hQ7.tab g4 k4
      clear hQ7 hR5 hR6 hRM kM xM nM hM d5 d6 d7 e7 m7 k4
      -- due
      refine ⟨_, rfl, _, rfl, _, rfl, _, rfl, b, x, y, s, zs, rfl, SqT.of xb, (by omega), lens, (by omega), (by omega), fun H8 s8 => ?_⟩
      have xb := s8 _ _ xb
      have g8 := tabSame g4 s8
      have hP8 := (hR7.keep' s8).up (m := 1 + 220 * i + 210) (by omega)
      obtain ⟨g, eg⟩ : ∃ g, g = great (fitB zs x y) s := ⟨_, rfl⟩
      rw [← eg]
      clear hR7 s8 g4
      -- handed
      refine ⟨_, rfl, b, _, rfl, .inr (SqT.of xb), fun D hD => ?_⟩
      have nD : D ≠ p := hP8.lt_new hD
      have sD := same_new (o := .lst (zs.map V.str)) hD
      have xD : (upd H8 D (.lst (zs.map V.str))) D = some (.lst (zs.map V.str)) := upd_same
      revert sD xD
      generalize upd H8 D (.lst (zs.map V.str)) = H9
      intro sD xD
      have xb := sD _ _ xb
      have g9 := tabSame g8 sD
      have hP9 := hP8.keep' sD
      clear hP8 sD g8 hD
      refine ⟨_, rfl, _, rfl, _, rfl, (by show 3 ≤ sizeLine; decide), fun U hU => ?_⟩
      have nU : U ≠ p := hP9.lt_new hU
      have sU := same_new (o := .tup [V.ref b, V.ref D, V.ref b]) hU
      have xU : (upd H9 U (.tup [V.ref b, V.ref D, V.ref b])) U = some (.tup [V.ref b, V.ref D, V.ref b]) := upd_same
      revert sU xU
      generalize upd H9 U (.tup [V.ref b, V.ref D, V.ref b]) = H10
      intro sU xU
      have xb := sU _ _ xb
      have xD := sU _ _ xD
      have gU := tabSame g9 sU
      have hPU := hP9.keep' sU
      clear hP9 sU g9 hU
      have sz := sizes_ok x1 x2 y1 y2 s1 s2
      have nbD : b ≠ D := fun e => by
        rw [e, xD] at xb
        cases xb
      refine ⟨U, rfl, ⟨_, SqT.of xU⟩, for_tup (K := K) (a := U) (xs := [V.ref b, V.ref D, V.ref b]) (fun j σ H => ∃ v9 : Option V, σ = [some (.ref a), some (.ref p), some (.int (0 + (i : Int))), some (.ref b), some (.int (x : Int)), some (.int (y : Int)), some (.int (s : Int)), some (optV g), some (.ref D), v9, v10, v11, v12, v13, v14] ∧ Pen H p L ns (1 + 220 * i + 210) ∧ TabG H P' ∧ H b = some (.tup (zs.map V.str)) ∧ H D = some (.lst (zs.map V.str)) ∧ H U = some (.tup [V.ref b, V.ref D, V.ref b])) ?_ ?_ ?_ ?_⟩
      · exact ⟨_, rfl, hPU, gU, xb, xD, xU⟩
      · rintro j σ H hj ⟨_, _, _, _, _, _, x⟩
        exact SqT.of x
      · clear hPU gU xb xD xU
        rintro j v σ H hj ⟨v9, rfl, hP, hg, xb, xD, xU⟩
        have hj2 : j < 3 := (List.getElem?_eq_some_iff.mp hj).1
        obtain ⟨c, rfl, hc⟩ : ∃ c, v = .ref c ∧ SqA K H c (zs.map V.str) := by
          rcases (by omega : j = 0 ∨ j = 1 ∨ j = 2) with rfl | rfl | rfl
          · cases hj
            exact ⟨b, rfl, .inr (SqT.of xb)⟩
          · cases hj
            exact ⟨D, rfl, .inl (SqL.of xD)⟩
          · cases hj
            exact ⟨b, rfl, .inr (SqT.of xb)⟩
        refine ⟨_, rfl, _, rfl, _, rfl, _, rfl, c, _, _, _, zs, rfl, hc, okI _, okI _, okI _, hg, (by omega), lens, fun e => ?_, fun x' y' s' ex ey es e H11 tk => ?_⟩
        · rw [sz] at e
          cases e
        obtain rfl : x' = x := by
          have := V.int.inj ex
          omega
        obtain rfl : y' = y := by
          have := V.int.inj ey
          omega
        obtain rfl : s' = s := by
          have := V.int.inj es
          omega
        rw [← eg]
        have xb := tk.2 _ _ xb (tab_ne hg xb fun _ q => nomatch q)
        have xD := tk.2 _ _ xD (tab_ne hg xD fun _ q => nomatch q)
        have xU := tk.2 _ _ xU (tab_ne hg xU fun _ q => nomatch q)
        have hP := hP.kt hg tk.2
        have hg := tk.1
        refine ⟨_, rfl, scal_opt g, _, rfl, ?_⟩
        rw [ne_self]
        refine iteF ?_
        refine ⟨_, rfl, _, rfl, b, _, rfl, .inr (SqT.of xb), fun l hl => ?_⟩
        have sl := same_new (o := .lst (zs.map V.str)) hl
        refine ⟨strsD zs, strsD zs, dpS (sl _ _ xD), dpS upd_same, strs_shaped sgn, strs_shaped sgn, ?_⟩
        rw [strs_eqv sgn]
        refine ⟨_, rfl, iteF ?_⟩
        exact ⟨_, rfl, hP.keep' sl, tabSame hg sl, sl _ _ xb, sl _ _ xD, sl _ _ xU⟩
      rintro σ H ⟨v9, rfl, hP, hg, xb, xD, _⟩
      clear hPU gU xU
      -- changes
      refine ⟨4, rfl, (by decide), (by decide), ?_⟩
      refine for_range (lo := 0) (n := 4) (fun j σ H => ∃ v9 v10 v11 v12 : Option V, σ = [some (.ref a), some (.ref p), some (.int (0 + (i : Int))), some (.ref b), some (.int (x : Int)), some (.int (y : Int)), some (.int (s : Int)), some (optV g), some (.ref D), v9, v10, v11, v12, v13, v14] ∧ Pen H p L ns (1 + 220 * i + 210) ∧ TabG H P' ∧ H b = some (.tup (zs.map V.str))) ?_ ?_ ?_
      · exact ⟨_, _, _, _, rfl, hP, hg, xb⟩
      · clear hP hg xb xD
        rintro j σ H hj ⟨v9, v10, v11, v12, rfl, hP, hg, xb⟩
        refine ⟨_, rfl, _, rfl, rfl, .inr ⟨_, rfl, _, _, rfl, rfl, .inr ⟨by decide, by decide⟩, _, _, rfl, rfl, _, _, rfl, ?_⟩⟩
        refine ⟨_, rfl, _, rfl, rfl, .inr ⟨_, rfl, _, _, rfl, rfl, .inr ⟨by decide, by decide⟩, _, _, rfl, rfl, _, _, rfl, ?_⟩⟩
        obtain ⟨x', ex, x1', x2'⟩ := more_sz (x := (x : Int)) (k := 7) (b := decide (V.int (0 + (j : Int)) = V.int 0)) (.inl rfl) (by omega) (by omega)
        obtain ⟨y', ey, y1', y2'⟩ := more_sz (x := (y : Int)) (k := 3) (b := decide (V.int (0 + (j : Int)) = V.int 1)) (.inr rfl) (by omega) (by omega)
        refine ⟨(by show 2 ≤ sizeLine; decide), fun M hM => ?_⟩
        refine seq_via (fun σ' H' => σ' = [some (.ref a), some (.ref p), some (.int (0 + (i : Int))), some (.ref b), some (.int (x : Int)), some (.int (y : Int)), some (.int (s : Int)), some (optV g), some (.ref D), v9, some (.int (0 + (j : Int))), some (.ref M), v12, v13, v14] ∧ H' = upd H M (.lst [V.int (x' : Int), V.int (y' : Int)])) (fun nx go => go _ _ ⟨rfl, by rw [← ex, ← ey] <;> rfl⟩) ?_
        rintro _ _ ⟨rfl, rfl⟩
        have sM := same_new (o := .lst [V.int (x' : Int), V.int (y' : Int)]) hM
        have nM : M ≠ p := hP.lt_new hM
        have xM : (upd H M (.lst [V.int (x' : Int), V.int (y' : Int)])) M = some (.lst [V.int (x' : Int), V.int (y' : Int)]) := upd_same
        revert sM xM
        generalize upd H M (.lst [V.int (x' : Int), V.int (y' : Int)]) = H1
        intro sM xM
        have xb := sM _ _ xb
        have hP := hP.keep' sM
        have hg := tabSame hg sM
        clear sM hM ex ey
        -- most
        refine ⟨_, rfl, _, rfl, rfl, .inr ⟨_, rfl, _, _, rfl, rfl, _, _, rfl, ?_⟩⟩
        obtain ⟨t, et, t1, t2⟩ := less_sz (x := (s : Int)) (b := decide (V.int (0 + (j : Int)) = V.int 2)) (by omega) (by omega)
        refine seq_via (fun σ' H' => σ' = [some (.ref a), some (.ref p), some (.int (0 + (i : Int))), some (.ref b), some (.int (x : Int)), some (.int (y : Int)), some (.int (s : Int)), some (optV g), some (.ref D), v9, some (.int (0 + (j : Int))), some (.ref M), some (.int (t : Int)), v13, v14] ∧ H1 = H') (fun nx go => go _ _ ⟨by rw [← et] <;> rfl, rfl⟩) ?_
        rintro _ _ ⟨rfl, rfl⟩
        clear et
        -- some
        refine seq_via (fun σ' H' => ∃ (c : Addr) (ys : List Str), σ' = [some (.ref a), some (.ref p), some (.int (0 + (i : Int))), some (.ref b), some (.int (x : Int)), some (.int (y : Int)), some (.int (s : Int)), some (optV g), some (.ref D), some (.ref c), some (.int (0 + (j : Int))), some (.ref M), some (.int (t : Int)), v13, v14] ∧ Same H1 H' ∧ H' c = some (.tup (ys.map V.str)) ∧ ys.length ≤ 13 ∧ ∀ z ∈ ys, z.length ≤ 1000) ?_ ?_
        · intro nx go
          refine ⟨_, rfl, rfl, _, rfl, iteB (fun h3 => ?_) fun h3 => ?_⟩
          · refine ⟨_, rfl, b, _, rfl, .inr (SqT.of xb), _, _, rfl, rfl, _, rfl, iteB (fun h4 => ?_) fun h4 => ?_⟩
            · refine ⟨_, rfl, (by show 1 ≤ sizeLine; decide), fun u hu => ?_⟩
              have su := same_new (o := .tup [V.str "one more"]) hu
              have xu : (upd H1 u (.tup [V.str "one more"])) u = some (.tup [V.str "one more"]) := upd_same
              revert su xu
              generalize upd H1 u (.tup [V.str "one more"]) = H2
              intro su xu
              refine ⟨b, u, _, _, rfl, rfl, SqT.of (su _ _ xb), SqT.of xu, by rw [List.length_map, List.length_singleton, sizeLine_eq]; omega, fun e0 => ?_, fun _ e => ?_, fun _ _ v hv => ?_⟩
              · exact go _ _ ⟨u, [("one more" : Str)], rfl, su, xu, by decide, fun z hz => by rw [List.mem_singleton.mp hz]; decide +kernel⟩
              · cases e
              · refine go _ _ ⟨v, zs ++ [("one more" : Str)], rfl, su.trans (same_new hv), ?_, by rw [List.length_append, List.length_singleton]; omega, fun z hz => ?_⟩
                · rw [upd_same, List.map_append] <;> rfl
                · rcases List.mem_append.mp hz with h | h
                  · exact lens z h
                  · rw [List.mem_singleton.mp h]; decide +kernel
            · exact ⟨_, rfl, go _ _ ⟨b, zs, rfl, Same.refl _, xb, by omega, lens⟩⟩
          · exact ⟨_, rfl, go _ _ ⟨b, zs, rfl, Same.refl _, xb, by omega, lens⟩⟩
        rintro _ H2 ⟨c, ys, rfl, s2', xc, ly, hy⟩
        have xb := s2' _ _ xb
        have xM := s2' _ _ xM
        have hP := hP.keep' s2'
        have hg := tabSame hg s2'
        clear s2'
        have sz' := sizes_ok x1' x2' y1' y2' t1 t2
        refine ⟨_, rfl, _, rfl, M, _, _, _, rfl, rfl, SqL.of xM, at_any (j := 0) rfl rfl, ?_⟩
        refine ⟨_, rfl, M, _, _, _, rfl, rfl, SqL.of xM, at_any (j := 1) rfl rfl, ?_⟩
        refine ⟨_, rfl, c, _, _, _, ys, rfl, .inr (SqT.of xc), okI _, okI _, okI _, hg, (by omega), hy, fun e => ?_, fun x'' y'' t'' ex ey es e H11 tk => ?_⟩
        · rw [sz'] at e
          cases e
        obtain rfl : x'' = x' := by
          have := V.int.inj ex
          omega
        obtain rfl : y'' = y' := by
          have := V.int.inj ey
          omega
        obtain rfl : t'' = t := by
          have := V.int.inj es
          omega
        have xb := tk.2 _ _ xb (tab_ne hg xb fun _ q => nomatch q)
        have xc := tk.2 _ _ xc (tab_ne hg xc fun _ q => nomatch q)
        have xM := tk.2 _ _ xM (tab_ne hg xM fun _ q => nomatch q)
        have hP := hP.kt hg tk.2
        have hg := tk.1
        refine ⟨_, rfl, _, rfl, M, _, _, _, rfl, rfl, SqL.of xM, at_any (j := 0) rfl rfl, ?_⟩
        refine ⟨_, rfl, M, _, _, _, rfl, rfl, SqL.of xM, at_any (j := 1) rfl rfl, ?_⟩
        refine ⟨_, rfl, c, x'', y'', t'', ys, rfl, SqT.of xc, (by omega), hy, (by omega), (by omega), fun H12 s12 => ?_⟩
        refine ⟨scal_opt _, _, rfl, ?_⟩
        rw [ne_self]
        refine iteF ?_
        exact ⟨_, _, _, _, rfl, hP.keep' s12, tabSame hg s12, s12 _ _ xb⟩
      rintro σ H ⟨v9, v10, v11, v12, rfl, hP, hg, xb⟩
      -- odd
      refine ⟨_, rfl, (by show 1 ≤ sizeLine; decide), fun F1 hF1 => ?_⟩
      have s1 := same_new (o := .lst [V.int 1]) hF1
      have x1 : (upd H F1 (.lst [V.int 1])) F1 = some (.lst [V.int 1]) := upd_same
      revert s1 x1
      generalize upd H F1 (.lst [V.int 1]) = H1
      intro s1 x1
      refine ⟨(by show 7 ≤ sizeLine; decide), fun Y hY => ?_⟩
      obtain ⟨YV, eYV⟩ : ∃ YV, YV = [V.int 0, V.int (-1), V.int 1000, V.bl true, V.non, V.str "5", V.ref F1] := ⟨_, rfl⟩
      rw [← eYV]
      have s2 := same_new (o := .lst YV) hY
      have nY : Y ≠ p := (hP.keep' s1).lt_new hY
      have xY : (upd H1 Y (.lst YV)) Y = some (.lst YV) := upd_same
      have s12 := s1.trans s2
      have xF := s2 _ _ x1
      revert s2 s12 xY xF
      generalize upd H1 Y (.lst YV) = H2
      intro s2 xY s12 xF
      have hP2 := hP.keep' s12
      have hg2 := tabSame hg s12
      have xb2 := s12 _ _ xb
      clear s12 s2 s1 x1 hY hF1 hP hg xb
      refine ⟨_, rfl, p, L, ns, _, 7, rfl, hP2, (by decide), (by decide), (by omega), fun k13 H3 k130 k131 hP3 b3 => ?_⟩
      obtain ⟨odd, eo, mo⟩ := listAt (xs := YV) k130 (by rw [eYV]; exact k131)
      have oko : Ok1 H2 odd ∧ worthB "wide" odd = false ∧ worthB "high" odd = false := by
        rw [eYV] at mo
        simp only [List.mem_cons, List.not_mem_nil, or_false] at mo
        rcases mo with rfl | rfl | rfl | rfl | rfl | rfl | rfl
        · exact ⟨okI _, by decide +kernel, by decide +kernel⟩
        · exact ⟨okI _, by decide +kernel, by decide +kernel⟩
        · exact ⟨okI _, by decide +kernel, by decide +kernel⟩
        · exact ⟨⟨.bl _, fun _ e => nomatch e⟩, rfl, rfl⟩
        · exact ⟨⟨.non, fun _ e => nomatch e⟩, rfl, rfl⟩
        · exact ⟨ok_str (by decide), rfl, rfl⟩
        · exact ⟨ok_ref (.lst xF), rfl, rfl⟩
      refine ⟨Y, _, _, _, rfl, rfl, SqL.of (b3.kp _ _ xY nY), eo, ?_⟩
      have oko3 := th_kp hP2 hP3 oko.1 b3.kp
      have xb3 := b3.kp _ _ xb2 nb
      have hg3 := hP2.tab hg2 b3.kp
      clear eo mo b3 hP2 hg2 xb2 xF xY nY eYV
      -- far
      refine ⟨(by show 5 ≤ sizeLine; decide), fun Z hZ => ?_⟩
      obtain ⟨ZV, eZV⟩ : ∃ ZV, ZV = [V.int 0, V.int 100, V.bl true, V.non, V.str "1"] := ⟨_, rfl⟩
      rw [← eZV]
      have s4 := same_new (o := .lst ZV) hZ
      have nZ : Z ≠ p := hP3.lt_new hZ
      have xZ : (upd H3 Z (.lst ZV)) Z = some (.lst ZV) := upd_same
      revert s4 xZ
      generalize upd H3 Z (.lst ZV) = H4
      intro s4 xZ
      have hP4 := hP3.keep' s4
      have hg4 := tabSame hg3 s4
      have xb4 := s4 _ _ xb3
      have oko4 := Ok1.same oko3 s4
      clear s4 hZ hP3 hg3 xb3 oko3
      refine ⟨_, rfl, p, L, ns, _, 5, rfl, hP4, (by decide), (by decide), (by omega), fun k14 H5 k140 k141 hP5 b5 => ?_⟩
      obtain ⟨far, ef, mf⟩ := listAt (xs := ZV) k140 (by rw [eZV]; exact k141)
      have okf : Ok1 H4 far ∧ worthB "size" far = false := by
        rw [eZV] at mf
        simp only [List.mem_cons, List.not_mem_nil, or_false] at mf
        rcases mf with rfl | rfl | rfl | rfl | rfl
        · exact ⟨okI _, by decide +kernel⟩
        · exact ⟨okI _, by decide +kernel⟩
        · exact ⟨⟨.bl _, fun _ e => nomatch e⟩, rfl⟩
        · exact ⟨⟨.non, fun _ e => nomatch e⟩, rfl⟩
        · exact ⟨ok_str (by decide), rfl⟩
      refine ⟨Z, _, _, _, rfl, rfl, SqL.of (b5.kp _ _ xZ nZ), ef, ?_⟩
      have okf5 := th_kp hP4 hP5 okf.1 b5.kp
      have oko5 := th_kp hP4 hP5 oko4 b5.kp
      have xb5 := b5.kp _ _ xb4 nb
      have hg5 := hP4.tab hg4 b5.kp
      clear ef mf b5 hP4 hg4 xb4 xZ nZ eZV oko4
      -- all refused
      refine ⟨_, rfl, _, rfl, _, rfl, (by show 3 ≤ sizeLine; decide), fun A1 hA1 => ?_⟩
      have sA1 := same_new (o := .tup [odd, V.int (y : Int), V.int (s : Int)]) hA1
      have xA1 : (upd H5 A1 (.tup [odd, V.int (y : Int), V.int (s : Int)])) A1 = some (.tup [odd, V.int (y : Int), V.int (s : Int)]) := upd_same
      revert sA1 xA1
      generalize upd H5 A1 (.tup [odd, V.int (y : Int), V.int (s : Int)]) = H6
      intro sA1 xA1
      refine ⟨_, rfl, _, rfl, _, rfl, (by show 3 ≤ sizeLine; decide), fun A2 hA2 => ?_⟩
      have sA2 := same_new (o := .tup [V.int (x : Int), odd, V.int (s : Int)]) hA2
      have xA2 : (upd H6 A2 (.tup [V.int (x : Int), odd, V.int (s : Int)])) A2 = some (.tup [V.int (x : Int), odd, V.int (s : Int)]) := upd_same
      revert sA2 xA2
      generalize upd H6 A2 (.tup [V.int (x : Int), odd, V.int (s : Int)]) = H7
      intro sA2 xA2
      refine ⟨_, rfl, _, rfl, _, rfl, (by show 3 ≤ sizeLine; decide), fun A3 hA3 => ?_⟩
      have sA3 := same_new (o := .tup [V.int (x : Int), V.int (y : Int), far]) hA3
      have xA3 : (upd H7 A3 (.tup [V.int (x : Int), V.int (y : Int), far])) A3 = some (.tup [V.int (x : Int), V.int (y : Int), far]) := upd_same
      revert sA3 xA3
      generalize upd H7 A3 (.tup [V.int (x : Int), V.int (y : Int), far]) = H8
      intro sA3 xA3
      refine ⟨_, rfl, _, rfl, _, rfl, (by show 3 ≤ sizeLine; decide), fun A4 hA4 => ?_⟩
      have sA4 := same_new (o := .tup [odd, odd, far]) hA4
      have xA4 : (upd H8 A4 (.tup [odd, odd, far])) A4 = some (.tup [odd, odd, far]) := upd_same
      revert sA4 xA4
      generalize upd H8 A4 (.tup [odd, odd, far]) = H9
      intro sA4 xA4
      refine ⟨(by show 4 ≤ sizeLine; decide), fun W hW => ?_⟩
      have sW := same_new (o := .lst [V.ref A1, V.ref A2, V.ref A3, V.ref A4]) hW
      have xW : (upd H9 W (.lst [V.ref A1, V.ref A2, V.ref A3, V.ref A4])) W = some (.lst [V.ref A1, V.ref A2, V.ref A3, V.ref A4]) := upd_same
      revert sW xW
      generalize upd H9 W (.lst [V.ref A1, V.ref A2, V.ref A3, V.ref A4]) = H10
      intro sW xW
      have s9 := sA4.trans sW
      have s8 := sA3.trans s9
      have s7 := sA2.trans s8
      have s6 := sA1.trans s7
      have xA1 := s7 _ _ xA1
      have xA2 := s8 _ _ xA2
      have xA3 := s9 _ _ xA3
      have xA4 := sW _ _ xA4
      have hP10 := hP5.keep' s6
      have hg10 := tabSame hg5 s6
      have xb10 := s6 _ _ xb5
      have oko10 := Ok1.same oko5 s6
      have okf10 := Ok1.same okf5 s6
      have nz1 : sizesB odd (V.int (y : Int)) (V.int (s : Int)) = false := by
        unfold sizesB
        rw [oko.2.1] <;> rfl
      have nz2 : sizesB (V.int (x : Int)) odd (V.int (s : Int)) = false := by
        unfold sizesB
        rw [oko.2.2, Bool.false_and, Bool.and_false]
      have nz3 : sizesB (V.int (x : Int)) (V.int (y : Int)) far = false := by
        unfold sizesB
        rw [okf.2, Bool.and_false, Bool.and_false]
      have nz4 : sizesB odd odd far = false := by
        unfold sizesB
        rw [oko.2.1] <;> rfl
      clear sA1 sA2 sA3 sA4 sW s9 s8 s7 s6 hA1 hA2 hA3 hA4 hW hP5 hg5 xb5 oko5 okf5
      have okAll : ∀ u v z : V, (u = odd ∨ u = .int (x : Int)) → (v = odd ∨ v = .int (y : Int)) → (z = far ∨ z = .int (s : Int)) → ∀ H, (∀ q, Ok1 H10 q → Ok1 H q) → Ok1 H u ∧ Ok1 H v ∧ Ok1 H z := fun u v z hu hv hz H ku => by
        refine ⟨?_, ?_, ?_⟩
        · rcases hu with rfl | rfl
          · exact ku _ oko10
          · exact okI _
        · rcases hv with rfl | rfl
          · exact ku _ oko10
          · exact okI _
        · rcases hz with rfl | rfl
          · exact ku _ okf10
          · exact okI _
      refine ⟨W, rfl, ⟨_, SqL.of xW⟩, for_list (K := K) (a := W) (xs := [V.ref A1, V.ref A2, V.ref A3, V.ref A4]) (fun j σ H => ∃ v9 : Option V, σ = [some (.ref a), some (.ref p), some (.int (0 + (i : Int))), some (.ref b), some (.int (x : Int)), some (.int (y : Int)), some (.int (s : Int)), some (optV g), some (.ref D), v9, v10, v11, v12, some odd, some far] ∧ Tk P' H10 H) ?_ ?_ ?_ ?_⟩
      · exact ⟨_, rfl, Tk.refl hg10⟩
      · rintro j σ H hj ⟨_, _, tk⟩
        exact SqL.of (tk.2 _ _ xW (tab_ne hg10 xW fun _ q => nomatch q))
      · rintro j v σ H hj ⟨v9, rfl, tk⟩
        have hj2 : j < 4 := (List.getElem?_eq_some_iff.mp hj).1
        obtain ⟨c, u1, u2, u3, rfl, xc, nz, h1, h2, h3⟩ : ∃ c u1 u2 u3, v = .ref c ∧ H10 c = some (.tup [u1, u2, u3]) ∧ sizesB u1 u2 u3 = false ∧ (u1 = odd ∨ u1 = .int (x : Int)) ∧ (u2 = odd ∨ u2 = .int (y : Int)) ∧ (u3 = far ∨ u3 = .int (s : Int)) := by
          rcases (by omega : j = 0 ∨ j = 1 ∨ j = 2 ∨ j = 3) with rfl | rfl | rfl | rfl
          · cases hj
            exact ⟨_, _, _, _, rfl, xA1, nz1, .inl rfl, .inr rfl, .inr rfl⟩
          · cases hj
            exact ⟨_, _, _, _, rfl, xA2, nz2, .inr rfl, .inl rfl, .inr rfl⟩
          · cases hj
            exact ⟨_, _, _, _, rfl, xA3, nz3, .inr rfl, .inr rfl, .inl rfl⟩
          · cases hj
            exact ⟨_, _, _, _, rfl, xA4, nz4, .inl rfl, .inl rfl, .inl rfl⟩
        obtain ⟨o1, o2, o3⟩ := okAll u1 u2 u3 h1 h2 h3 H fun q hq => Ok1.tk hq hg10 tk
        have xc := tk.2 _ _ xc (tab_ne hg10 xc fun _ q => nomatch q)
        have xb := tk.2 _ _ xb10 (tab_ne hg10 xb10 fun _ q => nomatch q)
        refine ⟨_, rfl, _, rfl, c, _, _, _, rfl, rfl, SqT.of xc, at_any (j := 0) rfl rfl, ?_⟩
        refine ⟨_, rfl, c, _, _, _, rfl, rfl, SqT.of xc, at_any (j := 1) rfl rfl, ?_⟩
        refine ⟨_, rfl, c, _, _, _, rfl, rfl, SqT.of xc, at_any (j := 2) rfl rfl, ?_⟩
        refine ⟨b, u1, u2, u3, zs, rfl, .inr (SqT.of xb), o1, o2, o3, tk.1, (by omega), lens, fun _ H11 tk2 => ?_, fun _ _ _ _ _ _ e => ?_⟩
        · refine ⟨rfl, _, rfl, ?_⟩
          rw [ne_self]
          refine iteF ?_
          exact ⟨_, rfl, tk.trans tk2⟩
        · rw [nz] at e
          cases e
      · rintro σ H ⟨v9, rfl, tk⟩
        exact ⟨_, _, _, _, _, _, _, _, _, _, _, _, _, rfl, (hP10.kt hg10 tk.2).up (by omega), tk.1⟩
    · rintro σ H3 ⟨v2, v3, v4, v5, v6, v7, v8, v9, v10, v11, v12, v13, v14, rfl, hP3, g3⟩
      exact q _

end
end K34

set_option Elab.async false
set_option linter.all false
set_option maxRecDepth 100000
set_option maxHeartbeats 2000000
namespace K34
open PySem PySem.Spec PyProof.Rows L2 GxR Gx Gd Gn Gm Gc Gk Gs Gv Gw Gt Gb
theorem dnS {P : Program} {w : World} {K : PySem.W.Frag} {mg : Str → Option Value} {base : Heap} {k : Nat} {x : Str} {ps : List Str} {sp : Sp} {st : Stmt} {fd : FuncData} (F : FnP K x st (He.fAd K (x, none)) fd) (hm : mg x = some (.ref (He.ga K x)))
    (b : Binds K fd ps []) (h : FnOk P w K mg base (L2.CX P w) k (He.fAd K (x, none)) fd ps sp) : DnS P w K mg base k x ps sp := ⟨_, fd, hm, F.kp, b, h⟩

/-! ### the head -/
def dOf (x : Str) (st : Stmt) : He.DefD := ⟨(x, none), x, x, defArgs st, defBody st, defScope st, [], []⟩
def fn : List He.DefD := [dOf "is_whole" sis_whole, dOf "is_whole_from" sis_whole_from, dOf "is_whole_within" sis_whole_within, dOf "is_one_of" sis_one_of, dOf "is_name" sis_name, dOf "is_trait" sis_trait, dOf "is_worth" sis_worth, dOf "words_of" swords_of, dOf "rows_of_line" srows_of_line, dOf "rows_of" srows_of, dOf "fits" sfits, dOf "greatest_size" sgreatest_size, dOf "shrunk_to" sshrunk_to, dOf "_law_pen" slaw_pen, dOf "_law_draw" slaw_draw, dOf "_law_line" slaw_line, dOf "_law_lines" slaw_lines, dOf "_law_rows" slaw_rows, dOf "_law_size" slaw_size, dOf "_law_word" slaw_word, dOf "_law_told" slaw_told, dOf "law" slaw]
def fa : List He.Fa := [.glo "is_whole", .glo "is_whole_from", .glo "is_whole_within", .glo "is_one_of", .glo "is_name", .glo "is_trait", .glo "is_worth", .glo "words_of", .glo "rows_of_line", .glo "rows_of", .glo "fits", .glo "greatest_size", .glo "shrunk_to", .glo "_law_pen", .glo "_law_draw", .glo "_law_line", .glo "_law_lines", .glo "_law_rows", .glo "_law_size", .glo "_law_word", .glo "_law_told", .glo "law", .free "len", .free "bool", .free "isinstance", .free "list", .free "range", .free "int", .free "tuple", .free "max", .free "min", .free "str", .free "all", .free "zip", .free "ValueError", .glo "TRAITS", .glo "BOUNDS", .glo "DeckError", .str "LETTERS" LETS, .str "FIGURES" FIGS, .int "LONGEST_NAME" 8]
def tf : List He.Defn := [("is_name", none)]
def ex : PySem.W.Frag → Bool := fun K => He.tupB K "TRAITS" [.str "left", .str "top", .str "wide", .str "high", .str "size", .str "ink"] && ((CLS.all fun x => (He.Fa.glo x).ok K) && (ewB K "NoRoom" && (ewB K "NoTrait" && boundsB K)))
def ts : List He.Tab := [(fun K => He.ga K "BOUNDS", BKS)]
abbrev R : PySem.W.OpenRow := PySem.W.OpenLaw.row PySem.Challenge.rw_mastershow_k34_what_fits
abbrev hk : PySem.W.Hook := He.hookX 4 fa fn ts tf ex
def ob (s : PySem.W.SharedT) : He.AlX := He.obsX 4 fa fn ts tf ex (HandSHeadRun.getT s)
theorem ob_eq (s : PySem.W.SharedT) : ob s = hk.obs s.abs := He.obsX_eq (HandSHeadRun.getT_eq s)
theorem run (w : World) : HandSHeadRun.RunEq R (PySem.W.view R.prog [56]) hk ob 20000 [("DeckError" : PySem.Str), ("NoDeck" : PySem.Str), ("NoMaster" : PySem.Str), ("NoSlide" : PySem.Str), ("NoPlace" : PySem.Str), ("NoTrait" : PySem.Str), ("NoWorth" : PySem.Str), ("NoSetting" : PySem.Str), ("NoName" : PySem.Str), ("Taken" : PySem.Str), ("TooMany" : PySem.Str), ("Ring" : PySem.Str), ("Used" : PySem.Str), ("NoRoom" : PySem.Str), ("NoSteps" : PySem.Str), ("NoPress" : PySem.Str), ("NoTime" : PySem.Str), ("NoShow" : PySem.Str), ("NoLink" : PySem.Str), ("NoNumber" : PySem.Str), ("NoWord" : PySem.Str), ("NoDeed" : PySem.Str), ("NoText" : PySem.Str), ("NoRow" : PySem.Str), ("is_whole" : PySem.Str), ("is_whole_from" : PySem.Str), ("is_whole_within" : PySem.Str), ("is_one_of" : PySem.Str), ("TRAITS" : PySem.Str), ("BOUNDS" : PySem.Str), ("LETTERS" : PySem.Str), ("FIGURES" : PySem.Str), ("LONGEST_NAME" : PySem.Str), ("is_name" : PySem.Str), ("is_trait" : PySem.Str), ("is_worth" : PySem.Str), ("words_of" : PySem.Str), ("rows_of_line" : PySem.Str), ("rows_of" : PySem.Str), ("fits" : PySem.Str), ("greatest_size" : PySem.Str), ("shrunk_to" : PySem.Str), ("_law_pen" : PySem.Str), ("_law_draw" : PySem.Str), ("_law_line" : PySem.Str), ("_law_lines" : PySem.Str), ("_law_worth" : PySem.Str), ("_law_rows" : PySem.Str), ("_law_size" : PySem.Str), ("_law_word" : PySem.Str), ("_law_told" : PySem.Str)] w := by
  refine PySem.W.byRow2 "special-get-raises" (P := fun w => HandSHeadRun.RunEq R (PySem.W.view R.prog [56]) hk ob 20000 [("DeckError" : PySem.Str), ("NoDeck" : PySem.Str), ("NoMaster" : PySem.Str), ("NoSlide" : PySem.Str), ("NoPlace" : PySem.Str), ("NoTrait" : PySem.Str), ("NoWorth" : PySem.Str), ("NoSetting" : PySem.Str), ("NoName" : PySem.Str), ("Taken" : PySem.Str), ("TooMany" : PySem.Str), ("Ring" : PySem.Str), ("Used" : PySem.Str), ("NoRoom" : PySem.Str), ("NoSteps" : PySem.Str), ("NoPress" : PySem.Str), ("NoTime" : PySem.Str), ("NoShow" : PySem.Str), ("NoLink" : PySem.Str), ("NoNumber" : PySem.Str), ("NoWord" : PySem.Str), ("NoDeed" : PySem.Str), ("NoText" : PySem.Str), ("NoRow" : PySem.Str), ("is_whole" : PySem.Str), ("is_whole_from" : PySem.Str), ("is_whole_within" : PySem.Str), ("is_one_of" : PySem.Str), ("TRAITS" : PySem.Str), ("BOUNDS" : PySem.Str), ("LETTERS" : PySem.Str), ("FIGURES" : PySem.Str), ("LONGEST_NAME" : PySem.Str), ("is_name" : PySem.Str), ("is_trait" : PySem.Str), ("is_worth" : PySem.Str), ("words_of" : PySem.Str), ("rows_of_line" : PySem.Str), ("rows_of" : PySem.Str), ("fits" : PySem.Str), ("greatest_size" : PySem.Str), ("shrunk_to" : PySem.Str), ("_law_pen" : PySem.Str), ("_law_draw" : PySem.Str), ("_law_line" : PySem.Str), ("_law_lines" : PySem.Str), ("_law_worth" : PySem.Str), ("_law_rows" : PySem.Str), ("_law_size" : PySem.Str), ("_law_word" : PySem.Str), ("_law_told" : PySem.Str)] w) (fun w => ?_) (fun w => ?_) w
  · intro os
    kernel_rfl
  · intro os
    kernel_rfl
theorem dn {P : Program} {w : World} {K : PySem.W.Frag} {mg : Str → Option Value} {base : Heap} {k : Nat} {x : Str} {ps : List Str} {sp : Sp} {st : Stmt} {fd : FuncData} (F : FnP K x st (He.fAd K (x, none)) fd) (hm : mg x = some (.ref (He.ga K x)))
    (b : Binds K fd ps []) (h : FnOk P w K mg base CX0 k (He.fAd K (x, none)) fd ps sp) : Dn P w K mg base k x ps sp := ⟨_, fd, hm, F.kp, b, h⟩
theorem facts {w : World} {K : PySem.W.Frag} {h : Heap} {mg : Str → Option Value} {f : Addr} (X : K.In h) (G : h.Ns mainGlobals mg) (hfa : mg ("law" : Str) = some (.ref f)) (c : He.SaysX fa fn ts tf ex w h K) :
    LamX.LawAtS PySem.Challenge.rw_mastershow_k34_what_fits w K CX0 8 63 "script" mg f h := by
  have cd := c.t.d
  obtain ⟨fd0, F0⟩ := cd.def_ 0 (d := dOf "is_whole" sis_whole) rfl
  have F0 : FnP K "is_whole" sis_whole (He.fAd K ("is_whole", none)) fd0 := F0
  obtain ⟨fd1, F1⟩ := cd.def_ 1 (d := dOf "is_whole_from" sis_whole_from) rfl
  have F1 : FnP K "is_whole_from" sis_whole_from (He.fAd K ("is_whole_from", none)) fd1 := F1
  obtain ⟨fd2, F2⟩ := cd.def_ 2 (d := dOf "is_whole_within" sis_whole_within) rfl
  have F2 : FnP K "is_whole_within" sis_whole_within (He.fAd K ("is_whole_within", none)) fd2 := F2
  obtain ⟨fd3, F3⟩ := cd.def_ 3 (d := dOf "is_one_of" sis_one_of) rfl
  have F3 : FnP K "is_one_of" sis_one_of (He.fAd K ("is_one_of", none)) fd3 := F3
  obtain ⟨fd4, F4⟩ := cd.def_ 4 (d := dOf "is_name" sis_name) rfl
  have F4 : FnP K "is_name" sis_name (He.fAd K ("is_name", none)) fd4 := F4
  obtain ⟨fd5, F5⟩ := cd.def_ 5 (d := dOf "is_trait" sis_trait) rfl
  have F5 : FnP K "is_trait" sis_trait (He.fAd K ("is_trait", none)) fd5 := F5
  obtain ⟨fd6, F6⟩ := cd.def_ 6 (d := dOf "is_worth" sis_worth) rfl
  have F6 : FnP K "is_worth" sis_worth (He.fAd K ("is_worth", none)) fd6 := F6
  obtain ⟨fd7, F7⟩ := cd.def_ 7 (d := dOf "words_of" swords_of) rfl
  have F7 : FnP K "words_of" swords_of (He.fAd K ("words_of", none)) fd7 := F7
  obtain ⟨fd8, F8⟩ := cd.def_ 8 (d := dOf "rows_of_line" srows_of_line) rfl
  have F8 : FnP K "rows_of_line" srows_of_line (He.fAd K ("rows_of_line", none)) fd8 := F8
  obtain ⟨fd9, F9⟩ := cd.def_ 9 (d := dOf "rows_of" srows_of) rfl
  have F9 : FnP K "rows_of" srows_of (He.fAd K ("rows_of", none)) fd9 := F9
  obtain ⟨fd10, F10⟩ := cd.def_ 10 (d := dOf "fits" sfits) rfl
  have F10 : FnP K "fits" sfits (He.fAd K ("fits", none)) fd10 := F10
  obtain ⟨fd11, F11⟩ := cd.def_ 11 (d := dOf "greatest_size" sgreatest_size) rfl
  have F11 : FnP K "greatest_size" sgreatest_size (He.fAd K ("greatest_size", none)) fd11 := F11
  obtain ⟨fd12, F12⟩ := cd.def_ 12 (d := dOf "shrunk_to" sshrunk_to) rfl
  have F12 : FnP K "shrunk_to" sshrunk_to (He.fAd K ("shrunk_to", none)) fd12 := F12
  obtain ⟨fd13, F13⟩ := cd.def_ 13 (d := dOf "_law_pen" slaw_pen) rfl
  have F13 : FnP K "_law_pen" slaw_pen (He.fAd K ("_law_pen", none)) fd13 := F13
  obtain ⟨fd14, F14⟩ := cd.def_ 14 (d := dOf "_law_draw" slaw_draw) rfl
  have F14 : FnP K "_law_draw" slaw_draw (He.fAd K ("_law_draw", none)) fd14 := F14
  obtain ⟨fd15, F15⟩ := cd.def_ 15 (d := dOf "_law_line" slaw_line) rfl
  have F15 : FnP K "_law_line" slaw_line (He.fAd K ("_law_line", none)) fd15 := F15
  obtain ⟨fd16, F16⟩ := cd.def_ 16 (d := dOf "_law_lines" slaw_lines) rfl
  have F16 : FnP K "_law_lines" slaw_lines (He.fAd K ("_law_lines", none)) fd16 := F16
  obtain ⟨fd17, F17⟩ := cd.def_ 17 (d := dOf "_law_rows" slaw_rows) rfl
  have F17 : FnP K "_law_rows" slaw_rows (He.fAd K ("_law_rows", none)) fd17 := F17
  obtain ⟨fd18, F18⟩ := cd.def_ 18 (d := dOf "_law_size" slaw_size) rfl
  have F18 : FnP K "_law_size" slaw_size (He.fAd K ("_law_size", none)) fd18 := F18
  obtain ⟨fd19, F19⟩ := cd.def_ 19 (d := dOf "_law_word" slaw_word) rfl
  have F19 : FnP K "_law_word" slaw_word (He.fAd K ("_law_word", none)) fd19 := F19
  obtain ⟨fd20, F20⟩ := cd.def_ 20 (d := dOf "_law_told" slaw_told) rfl
  have F20 : FnP K "_law_told" slaw_told (He.fAd K ("_law_told", none)) fd20 := F20
  obtain ⟨fd21, F21⟩ := cd.def_ 21 (d := dOf "law" slaw) rfl
  have F21 : FnP K "law" slaw (He.fAd K ("law", none)) fd21 := F21
  have e := hfa.symm.trans (He.glo_ok X G (cd.fact 21 (f := .glo "law") rfl))
  cases e
  have T : Txt mg := ⟨He.free_ok X G (cd.fact 22 (f := .free "len") rfl),
    He.free_ok X G (cd.fact 23 (f := .free "bool") rfl),
    He.free_ok X G (cd.fact 24 (f := .free "isinstance") rfl),
    He.free_ok X G (cd.fact 25 (f := .free "list") rfl),
    He.free_ok X G (cd.fact 26 (f := .free "range") rfl),
    He.free_ok X G (cd.fact 27 (f := .free "int") rfl),
    He.free_ok X G (cd.fact 28 (f := .free "tuple") rfl),
    He.free_ok X G (cd.fact 29 (f := .free "max") rfl),
    He.free_ok X G (cd.fact 30 (f := .free "min") rfl),
    He.free_ok X G (cd.fact 31 (f := .free "str") rfl),
    He.free_ok X G (cd.fact 32 (f := .free "all") rfl),
    He.free_ok X G (cd.fact 33 (f := .free "zip") rfl),
    He.free_ok X G (cd.fact 34 (f := .free "ValueError") rfl)⟩
  have g_TRAITS := He.glo_ok X G (cd.fact 35 (f := .glo "TRAITS") rfl)
  have g_BOUNDS := He.glo_ok X G (cd.fact 36 (f := .glo "BOUNDS") rfl)
  have g_DeckError := He.glo_ok X G (cd.fact 37 (f := .glo "DeckError") rfl)
  obtain ⟨t_g1, g1⟩ := He.str_ok X G (cd.fact 38 (f := .str "LETTERS" LETS) rfl)
  obtain ⟨t_g2, g2⟩ := He.str_ok X G (cd.fact 39 (f := .str "FIGURES" FIGS) rfl)
  obtain ⟨t_g3, g3⟩ := He.int_ok X G (cd.fact 40 (f := .int "LONGEST_NAME" 8) rfl)
  have mo := c.more
  unfold ex at mo
  simp only [Bool.and_eq_true] at mo
  obtain ⟨x1, x2, x3, x4, x5⟩ := mo
  have C : TxtC K mg := ⟨fun x hx => He.glo_ok X G (List.all_eq_true.mp x2 x (List.contains_iff_mem.mp hx))⟩
  have N_NoRoom : ErW K mg "NoRoom" := ewB_ok x3 (C.cls _ (by decide +kernel)) (by decide +kernel)
  have N_NoTrait : ErW K mg "NoTrait" := ewB_ok x4 (C.cls _ (by decide +kernel)) (by decide +kernel)
  have tT : ∀ H, SqT K H (He.ga K "TRAITS") TR := fun H => He.tupB_ok (vs := [.str "left", .str "top", .str "wide", .str "high", .str "size", .str "ink"]) x1 H
  have BB : BN K w := boundsB_ok x5 (c.t.tab 0 (t := (fun K => He.ga K "BOUNDS", BKS)) rfl)
  have b0 := F0.bindsN (ps := ["thing"]) fun _ _ _ _ _ _ us hl => match us, hl with | [_], _ => rfl
  have b1 := F1.bindsN (ps := ["thing", "low"]) fun _ _ _ _ _ _ us hl => match us, hl with | [_, _], _ => rfl
  have b2 := F2.bindsN (ps := ["thing", "low", "high"]) fun _ _ _ _ _ _ us hl => match us, hl with | [_, _, _], _ => rfl
  have b3 := F3.bindsN (ps := ["thing", "words"]) fun _ _ _ _ _ _ us hl => match us, hl with | [_, _], _ => rfl
  have b4 := F4.bindsN (ps := ["thing"]) fun _ _ _ _ _ _ us hl => match us, hl with | [_], _ => rfl
  have b5 := F5.bindsN (ps := ["thing"]) fun _ _ _ _ _ _ us hl => match us, hl with | [_], _ => rfl
  have b6 := F6.bindsN (ps := ["trait", "thing"]) fun _ _ _ _ _ _ us hl => match us, hl with | [_, _], _ => rfl
  have b7 := F7.bindsN (ps := ["line"]) fun _ _ _ _ _ _ us hl => match us, hl with | [_], _ => rfl
  have b8 := F8.bindsN (ps := ["line", "wide"]) fun _ _ _ _ _ _ us hl => match us, hl with | [_, _], _ => rfl
  have b9 := F9.bindsN (ps := ["lines", "wide"]) fun _ _ _ _ _ _ us hl => match us, hl with | [_, _], _ => rfl
  have b10 := F10.bindsN (ps := ["lines", "wide", "high", "size"]) fun _ _ _ _ _ _ us hl => match us, hl with | [_, _, _, _], _ => rfl
  have b11 := F11.bindsN (ps := ["lines", "wide", "high", "size"]) fun _ _ _ _ _ _ us hl => match us, hl with | [_, _, _, _], _ => rfl
  have b12 := F12.bindsN (ps := ["lines", "wide", "high", "size"]) fun _ _ _ _ _ _ us hl => match us, hl with | [_, _, _, _], _ => rfl
  have b13 := F13.bindsN (ps := ["script"]) fun _ _ _ _ _ _ us hl => match us, hl with | [_], _ => rfl
  have b14 := F14.bindsN (ps := ["pen", "many"]) fun _ _ _ _ _ _ us hl => match us, hl with | [_, _], _ => rfl
  have b15 := F15.bindsN (ps := ["pen"]) fun _ _ _ _ _ _ us hl => match us, hl with | [_], _ => rfl
  have b16 := F16.bindsN (ps := ["pen"]) fun _ _ _ _ _ _ us hl => match us, hl with | [_], _ => rfl
  have b17 := F17.bindsN (ps := ["lines", "wide"]) fun _ _ _ _ _ _ us hl => match us, hl with | [_, _], _ => rfl
  have b18 := F18.bindsN (ps := ["lines", "wide", "high", "size"]) fun _ _ _ _ _ _ us hl => match us, hl with | [_, _, _, _], _ => rfl
  have b19 := F19.bindsN (ps := ["e"]) fun _ _ _ _ _ _ us hl => match us, hl with | [_], _ => rfl
  have b20 := F20.bindsN (ps := ["lines", "wide", "high", "size"]) fun _ _ _ _ _ _ us hl => match us, hl with | [_, _, _, _], _ => rfl
  have b21 := FunD.bindsA (ps := ["script"]) F21 fun _ _ _ _ _ _ us hl => match us, hl with | [_], _ => rfl
  refine ⟨fd21, [He.cT K ("is_name", none)], spLaw K (He.cT K ("is_name", none)).2, ?_, ?_, ?_, fun s v => b21 s [v] rfl, ?_, ?_⟩
  · intro p hp
    obtain ⟨d, hd, rfl⟩ := (List.mem_map.mp (show p ∈ tf.map (fun d => He.cT K d) from hp))
    exact c.empty d hd
  · intro p hp
    obtain ⟨d, hd, rfl⟩ := (List.mem_map.mp (show p ∈ tf.map (fun d => He.cT K d) from hp))
    exact c.out d hd
  · intro p hp
    obtain ⟨d, hd, rfl⟩ := (List.mem_map.mp (show p ∈ tf.map (fun d => He.cT K d) from hp))
    exact PySem.W.codeHd_of_K X (c.hd d hd)
  · intro H a ns hl _ hT hS
    exact ⟨a, ns, rfl, hS, hl, ⟨#[], hT _ (List.mem_cons_self), (by first | exact triples_nil | simp [TriplesOk])⟩, fun _ => rfl⟩
  · intro base _ _ hB
    have B0 := hB _ (List.mem_cons_self)
    have T0 : GxR.TabB base mg (He.codeOf K ("is_name", none)) (He.cT K ("is_name", none)).2 := ⟨B0.code, B0.bm, B0.gP⟩
    have D0 := dn F0 (He.glo_ok X G (cd.fact 0 (f := .glo "is_whole") rfl)) b0 (ok_whole (P := (PySem.Challenge.rw_mastershow_k34_what_fits).prog) (w := w) (base := base) F0 T)
    have D1 := dn F1 (He.glo_ok X G (cd.fact 1 (f := .glo "is_whole_from") rfl)) b1 (ok_from F1 T D0)
    have D2 := dn F2 (He.glo_ok X G (cd.fact 2 (f := .glo "is_whole_within") rfl)) b2 (ok_within F2 T D0)
    have D3 := dn F3 (He.glo_ok X G (cd.fact 3 (f := .glo "is_one_of") rfl)) b3 (ok_oneof (P := (PySem.Challenge.rw_mastershow_k34_what_fits).prog) (w := w) (base := base) F3 T)
    have D4 := dn F4 (He.glo_ok X G (cd.fact 4 (f := .glo "is_name") rfl)) b4 (ok_name (P := (PySem.Challenge.rw_mastershow_k34_what_fits).prog) (w := w) (base := base) F4 T T0 g1 g2 g3)
    have D5 := dn F5 (He.glo_ok X G (cd.fact 5 (f := .glo "is_trait") rfl)) b5 (ok_trait F5 g_TRAITS tT D3)
    have D6 := dnS F6 (He.glo_ok X G (cd.fact 6 (f := .glo "is_worth") rfl)) b6 (ok_worth F6 T N_NoTrait.toEr BB g_BOUNDS D5 D4 D2)
    have D7 := dn F7 (He.glo_ok X G (cd.fact 7 (f := .glo "words_of") rfl)) b7 (ok_wordsOf (P := (PySem.Challenge.rw_mastershow_k34_what_fits).prog) (w := w) (base := base) F7 T)
    have D8 := dn F8 (He.glo_ok X G (cd.fact 8 (f := .glo "rows_of_line") rfl)) b8 (ok_rowsLine F8 T D7)
    have D9 := dnS F9 (He.glo_ok X G (cd.fact 9 (f := .glo "rows_of") rfl)) b9 (ok_rowsOf F9 T N_NoRoom.toEr D1 D8)
    have D10 := dnS F10 (He.glo_ok X G (cd.fact 10 (f := .glo "fits") rfl)) b10 (ok_fits F10 T D9)
    have D11 := dnS F11 (He.glo_ok X G (cd.fact 11 (f := .glo "greatest_size") rfl)) b11 (ok_great F11 T D10)
    have D12 := dnS F12 (He.glo_ok X G (cd.fact 12 (f := .glo "shrunk_to") rfl)) b12 (ok_shrunk F12 T N_NoRoom.toEr D6 D11)
    have D13 := dn F13 (He.glo_ok X G (cd.fact 13 (f := .glo "_law_pen") rfl)) b13 (ok_pen (P := (PySem.Challenge.rw_mastershow_k34_what_fits).prog) (w := w) (base := base) F13 T)
    have D14 := dn F14 (He.glo_ok X G (cd.fact 14 (f := .glo "_law_draw") rfl)) b14 (ok_draw (P := (PySem.Challenge.rw_mastershow_k34_what_fits).prog) (w := w) (base := base) F14 T)
    have D15 := dn F15 (He.glo_ok X G (cd.fact 15 (f := .glo "_law_line") rfl)) b15 (ok_lineL F15 T D14)
    have D16 := dn F16 (He.glo_ok X G (cd.fact 16 (f := .glo "_law_lines") rfl)) b16 (ok_linesM F16 T D14 D15)
    have D17 := dn F17 (He.glo_ok X G (cd.fact 17 (f := .glo "_law_rows") rfl)) b17 (ok_lawRowsT (P := (PySem.Challenge.rw_mastershow_k34_what_fits).prog) (w := w) (base := base) F17 T)
    have D18 := dn F18 (He.glo_ok X G (cd.fact 18 (f := .glo "_law_size") rfl)) b18 (ok_sizeT F18 T D17)
    have D19 := dn F19 (He.glo_ok X G (cd.fact 19 (f := .glo "_law_word") rfl)) b19 (ok_word (P := (PySem.Challenge.rw_mastershow_k34_what_fits).prog) (w := w) (base := base) F19 T C)
    have D20 := dn F20 (He.glo_ok X G (cd.fact 20 (f := .glo "_law_told") rfl)) b20 (ok_told34 F20 T g_DeckError N_NoRoom D12 D19)
    exact ok_law F21 T D13 D14 D16 D18 D20
end K34
open PySem PySem.W PySem.Calls PyProof.Rows
set_option maxRecDepth 100000 in
set_option maxHeartbeats 0 in
theorem PySem.Challenge.cw_mastershow_k34_what_fits_holds : PySem.Challenge.rw_mastershow_k34_what_fits.Holds := by
  w_on; o_law
  refine HandSHeadRun.head_any (r := OpenLaw.row PySem.Challenge.rw_mastershow_k34_what_fits) (q := view (OpenLaw.row PySem.Challenge.rw_mastershow_k34_what_fits).prog [56]) (H := K34.hk) (ob := K34.ob) (M := 20000) (loose := [("DeckError" : PySem.Str), ("NoDeck" : PySem.Str), ("NoMaster" : PySem.Str), ("NoSlide" : PySem.Str), ("NoPlace" : PySem.Str), ("NoTrait" : PySem.Str), ("NoWorth" : PySem.Str), ("NoSetting" : PySem.Str), ("NoName" : PySem.Str), ("Taken" : PySem.Str), ("TooMany" : PySem.Str), ("Ring" : PySem.Str), ("Used" : PySem.Str), ("NoRoom" : PySem.Str), ("NoSteps" : PySem.Str), ("NoPress" : PySem.Str), ("NoTime" : PySem.Str), ("NoShow" : PySem.Str), ("NoLink" : PySem.Str), ("NoNumber" : PySem.Str), ("NoWord" : PySem.Str), ("NoDeed" : PySem.Str), ("NoText" : PySem.Str), ("NoRow" : PySem.Str), ("is_whole" : PySem.Str), ("is_whole_from" : PySem.Str), ("is_whole_within" : PySem.Str), ("is_one_of" : PySem.Str), ("TRAITS" : PySem.Str), ("BOUNDS" : PySem.Str), ("LETTERS" : PySem.Str), ("FIGURES" : PySem.Str), ("LONGEST_NAME" : PySem.Str), ("is_name" : PySem.Str), ("is_trait" : PySem.Str), ("is_worth" : PySem.Str), ("words_of" : PySem.Str), ("rows_of_line" : PySem.Str), ("rows_of" : PySem.Str), ("fits" : PySem.Str), ("greatest_size" : PySem.Str), ("shrunk_to" : PySem.Str), ("_law_pen" : PySem.Str), ("_law_draw" : PySem.Str), ("_law_line" : PySem.Str), ("_law_lines" : PySem.Str), ("_law_worth" : PySem.Str), ("_law_rows" : PySem.Str), ("_law_size" : PySem.Str), ("_law_word" : PySem.Str), ("_law_told" : PySem.Str)]) (d := HandSHeadRun.topDef (OpenLaw.row PySem.Challenge.rw_mastershow_k34_what_fits).prog 56) (kwd := []) K34.ob_eq
    (by kernel_rfl) (fun s => by kernel_rfl) K34.run (by kernel_rfl) (by kernel_rfl) (by kernel_rfl) (by rfl) (by first | assumption | decide +kernel) (by decide +kernel) ⟨rfl, rfl, rfl, rfl, rfl, by decide +kernel⟩ ?hw ?hc
  case hw => w_witness2
  case hc =>
    refine LamX.walk_ofTsE (l := PySem.Challenge.rw_mastershow_k34_what_fits) (n := 63) (k := 8) (x := "script") (CX := fun _ => L2.CX0) rfl (by decide) (by kernel_rfl) ⟨rfl, by decide, by decide⟩ ?F (fun _ _ _ _ _ z => z)
    intro w mg fa h Y G hmg0
    obtain ⟨K, KX, c⟩ := Y
    have hmg : mg ("law" : PySem.Str) = some (.ref fa) := by
      have e : (HandSHeadRun.topDef (OpenLaw.row PySem.Challenge.rw_mastershow_k34_what_fits).prog 56).name = ("law" : PySem.Str) := by kernel_rfl
      rw [← e]
      exact hmg0
    exact ⟨K, KX, K34.facts KX G hmg c⟩

