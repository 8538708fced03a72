import PyProof.Rows.All
import Wide.All
import OpenK.AllK
import Wide.FinOn
import HandS.ForMost
import HandS.AnyAll
import HandS.IsInst
import HandS.Style
import HandS.Defaults
import HandS.Head0
import HandS.Head1
import HandS.Head2
import HandS.HeadEnd
import HandS.HeadHook1
import HandS.HeadHook2
import HandS.HeadHook3
import HandS.HeadHook4
import HandS.HeadWalk
import HandS.Zip
import HandS.Walk
import HandS.Exc
import HandS.ExcIs
import HandS.ExcOwn
import HandS.ExcValue
import HandS.SetFor
import PySem.Challenge.RW_mastershow_k06_worths_by_masters
import HandS.Lambda
set_option Elab.async false
set_option linter.all false
set_option maxRecDepth 100000
set_option maxHeartbeats 2000000
/-! all(test of sign for sign in text), the test over the module's own names -/
namespace Gx
open PySem PySem.Spec PyProof.Rows L2 GxR

/-- the element, in any frame of the generator, over the module as it stands -/
def EltG (X : Cx) (scope : Scope) (x : Str) (elt : Expr) (pb : Nat → Bool) : Prop :=
  ∀ (ge : Env) (B : Around) (F : Value → Shared → Prop) (c : Nat) (tk : Tok) (z : Shared) (m : Str → Option Value),
    ge.scope = scope → ge.globals = X.env.globals → z.heap.Ns ge.locals m → m x = some (.str ⟨#[c]⟩ tk) →
    (∀ b o, X.base.get? b = some o → z.heap.get? b = some o) → z.heap.Ns ge.globals X.mg →
    wpAny (model X.prog X.w) B (eval elt ge) (fun y z' => y = .bool (pb c) ∧ Keeps z z') F z

/-- x in G, G a text of the module's -/
theorem elt_inG {X : Cx} {scope : Scope} {x g : Str} {zs : Str} {tz : Tok} {p1 p2 p3 : Pos} (hk : scope.kind = .function) (hl : scope.names.lookup x = some .local)
    (hg : scope.names.lookup g = some .globalImplicit) (hm : X.mg g = some (.str zs tz)) (hd : (x == ("__debug__" : Str)) = false := by decide) (hd2 : (g == ("__debug__" : Str)) = false := by decide) :
    EltG X scope x (.Compare (.Name x p1) [.In] [.Name g p2] p3) (fun c => decide (c ∈ zs.cps.toList)) := by
  intro ge B F c tk z m hs hgl hn hx hb hN
  have kd : ge.scope.kind = .function := by rw [hs]; exact hk
  have kx : ge.scope.names.lookup x = some .local := by rw [hs]; exact hl
  have kg : ge.kindOf g = some .globalImplicit := (show ge.scope.names.lookup g = some .globalImplicit by rw [hs]; exact hg)
  refine wpAny_Compare1 ?_
  refine wpAny_Name (wpAny_loadName_local kd kx hn hx ?_) hd
  refine Calls.Name_function_global kd kg (Calls.loadGlobal_global hN hm ?_) hd2
  refine PyProof.Rows.in_str ?_
  exact ⟨congrArg Value.bool (PySem.StrLaws.found_one zs c), keeps_tok z z.toks⟩

/-- a or b -/
theorem elt_or {X : Cx} {scope : Scope} {x : Str} {a b : Expr} {pa pb : Nat → Bool} {p : Pos} (ha : EltG X scope x a pa) (hb : EltG X scope x b pb) :
    EltG X scope x (.BoolOp .Or [a, b] p) (fun c => pa c || pb c) := by
  intro ge B F c tk z m hs hgl hn hx hbs hN
  refine BoolOp_or (wpAny_mono (ha ge B F c tk z m hs hgl hn hx hbs hN) (fun v z1 hv => ?_) fun _ _ e => e)
  obtain ⟨rfl, h', t', rfl, kp⟩ := hv
  refine wpAny_truthy_bool ?_
  cases hp : pa c with
  | true =>
    refine ⟨?_, h', t', rfl, kp⟩
    show Value.bool true = Value.bool (pa c || pb c)
    rw [hp] <;> rfl
  | false =>
    refine BoolOp_one (wpAny_mono (hb ge B F c tk { z with heap := h', toks := t' } m hs hgl (hn.keeps kp) hx (fun q o e => kp q o (hbs q o e)) (hN.keeps kp)) (fun v z1 hv => ?_) fun _ _ e => e)
    obtain ⟨rfl, h2, t2, rfl, kp2⟩ := hv
    refine ⟨?_, h2, t2, rfl, fun q o e => kp2 q o (kp q o e)⟩
    show Value.bool (pb c) = Value.bool (pa c || pb c)
    rw [hp] <;> rfl

section
variable {X : Cx} {pins : List (Addr × Obj)} {σ : L2.St} {H : Hp} {s : Shared}
theorem gen_G {c P : Addr} {elt iter : Expr} {x : Str} {px gpos : Pos} {scope : Scope} {pb : Nat → Bool} {te : TE} {k : Nat} {W : Value → Shared → Prop} {R : Str → Hp → Prop}
    (room : Room k X.A) (tb : TabB X.base X.mg c P) (code : X.env.code = .ref c) (gs : GenS X.env scope x) (it : PE X iter te) (el : EltG X scope x elt pb)
    (fold : ∀ v, genFold iter X.env v = pure v) (I : Inv X pins σ H s) (h : te σ H fun v H1 => ∃ a : Str, v = .str a ∧ TabG H1 P ∧ R a H1)
    (fin : ∀ a H1 g s5, R a H1 → Ready X pins σ H1 P a pb g s5 → W (.ref g) s5) :
    wpAny (model X.prog X.w) X.A (eval (.GeneratorExp elt [⟨.Name x px, iter, [], 0⟩] scope gpos) X.env) W X.xe s := by
  refine wpAny_GeneratorExp_walksQ room.hd gs.co (closure_ok gs.free) gs.cell gs.dot gs.loc gs.kind (Nat.lt_of_le_of_lt (Nat.le_add_right X.A.depth (3 * k + 5)) (by have := room.dp; omega)) ?_ fold
  refine thn (it.run pins s σ H _ I h) ?_
  rintro xv s1 ⟨v, H1, J, rv, a, rfl, ⟨ps, tP, trip⟩, r⟩
  obtain ⟨t, rfl⟩ := _root_.id rv
  refine wpAny_pyIter_str fun o St walks st0 => ?_
  have atP := J.hok P _ tP
  have atP : s1.heap.get? P = some { cls := .none, data := .fields ps } := atP
  have ltP := Heap.lt_size atP
  have atP' : (s1.heap.push o).get? P = some { cls := .none, data := .fields ps } := Heap.get?_push_of_some _ atP
  have head := tb.code.keeps (h' := s1.heap.push o) fun b u e => Heap.get?_push_of_some _ (J.bk b u e)
  have lim := J.nolimit.push o
  have baseP : ∀ b u, X.base.get? b = some u → b ≠ P := fun b u e q => by
    have n := (J.bs b u e).2
    rw [q, tP] at n
    cases n
  have after : ∀ (cd : Value) (h3 : Heap) (tk : Nat) (ps' : Array Value), Heap.ExtBut P (s1.heap.push o) h3 → (s1.heap.push o).objs.size ≤ h3.objs.size → h3.get? P = some { cls := .none, data := .fields ps' } → (∃ more, ps' = ps ++ more) → TriplesOk ps'.toList →
      wpAny (model X.prog X.w) X.A (builtinsFor X.env.globals X.env.builtins) (fun bi s₄ =>
        ∃ Ia fp wr n₀ Pf St₀ pz F, Value.ref s1.heap.objs.size = .ref Ia ∧ (∀ A' : Around, A'.handled = none → Walks X.prog X.w A' Ia fp wr n₀ Pf St₀) ∧ St₀ 0 s₄.heap ∧ (∀ b ∈ fp, b < s₄.heap.objs.size) ∧ s₄.heap.NoLimit ∧ cStatics ∉ wr ∧
          (∀ href : Heap, (∀ b o, s₄.heap.get? b = some o → href.get? b = some o) →
            QuietGen X.prog X.w (genEnv scope (cloFrom X.env.cells scope.names []) s₄.heap.objs.size cd bi X.env) x [] elt (List.range s₄.heap.objs.size) wr Pf pz F href) ∧
          (∀ a h₅ tk gs, gs.bare = true → s₄.heap.objs.size < a → h₅.objs.size = a + 1 → (∀ b o, s₄.heap.get? b = some o → h₅.get? b = some o) →
            WalksS X.prog X.w X.A.in4 a (a :: s₄.heap.objs.size :: List.range s₄.heap.objs.size) (s₄.heap.objs.size :: wr) (GenOnlyQ s₄.gens.size) (passing pz n₀ 0).length
              (fun j y => ∃ i, (passing pz n₀ 0)[j]? = some i ∧ F i y) (GenAt X.prog X.w X.A.in4 a s₄.gens.size s₄.heap.objs.size (List.range s₄.heap.objs.size) wr pz n₀ F) →
            GenAt X.prog X.w X.A.in4 a s₄.gens.size s₄.heap.objs.size (List.range s₄.heap.objs.size) wr pz n₀ F 0 { s₄ with gens := s₄.gens.push gs, toks := tk, heap := h₅ } →
            W (.ref a) { s₄ with gens := s₄.gens.push gs, toks := tk, heap := h₅ })) X.xe { s1 with heap := h3, toks := tk } := by
    intro cd h3 tk ps' ext size atP3 grown trip3
    obtain ⟨bm, ob, e1, e2, e3, e4, e5, e6, e7, e8⟩ := tb.bm
    have statP : cStatics ≠ P := fun e => by
      obtain ⟨_, hns, _⟩ := J.nolimit
      obtain ⟨o', es, ep, ho, hd, _⟩ := hns
      rw [e, atP] at ho
      cases ho
      cases hd
    have statLt : cStatics < s1.heap.objs.size := let ⟨_, hns, _⟩ := J.nolimit; hns.lt
    have sz2 : (s1.heap.push o).objs.size = s1.heap.objs.size + 1 := Heap.size_push ..
    have kept : ∀ b u, b ≠ P → s1.heap.get? b = some u → h3.get? b = some u := fun b u hb e => ext b u hb (Heap.get?_push_of_some _ e)
    have glob3 : h3.Ns X.env.globals X.mg := by
      rw [J.ok.glob]
      exact ((J.mod.glob.keeps J.bk).push o).extBut ext tb.gP
    refine wpAny_builtinsFor (m := X.mg) glob3 e1 e2 (kept _ _ e4 (J.bk _ _ e5)) e6 e7 e8 ?_
    refine ⟨s1.heap.objs.size, [s1.heap.objs.size], [s1.heap.objs.size], a.cps.size, SignAt a, St, (fun _ => true), (fun i y => ∃ cc, a.cps[i]? = some cc ∧ y = .bool (pb cc)), rfl, walks, ?_, ?_, lim.extBut ext statP, ?_, ?_, ?_⟩
    · refine (walks X.A room.hd).frame _ _ _ st0 fun b hb u e => ext b u (fun z => ?_) e
      have q := List.mem_singleton.mp hb
      exact Nat.ne_of_lt ltP (z.symm.trans q)
    · intro b hb
      rw [List.mem_singleton.mp hb]
      show s1.heap.objs.size < h3.objs.size
      omega
    · intro z
      exact Nat.ne_of_lt statLt (List.mem_singleton.mp z)
    · intro href hhref
      have seen : ∀ s₂ : Shared, (∀ b ∈ List.range h3.objs.size, b ∉ [s1.heap.objs.size] → ∀ o, href.get? b = some o → s₂.heap.get? b = some o) → ∀ b u, b ≠ P → s1.heap.get? b = some u → s₂.heap.get? b = some u := fun s₂ hk b u hb e => by
        have l1 := Heap.lt_size e
        refine hk b (List.mem_range.mpr (Nat.lt_of_lt_of_le l1 (by omega))) (fun q => Nat.ne_of_lt l1 (List.mem_singleton.mp q)) u (hhref b u (kept b u hb e))
      refine ⟨fun A' E' i v s₂ m₂ hA hPv hn hm hk => ?_, fun A' E' i v s₂ m₂ hA hPv hp hn hm hk => ?_⟩
      · simp only [List.forIn_nil]
        exact wpAny_pure ⟨rfl, keeps_refl _⟩
      · obtain ⟨cc, u, hcc, rfl⟩ := hPv
        have gl2 : s₂.heap.Ns X.env.globals X.mg := by
          obtain ⟨og, es, ep, eg, dg, rg⟩ := J.mod.glob
          rw [J.ok.glob]
          exact ⟨og, es, ep, seen s₂ hk _ _ tb.gP (J.bk _ _ eg), dg, rg⟩
        exact wpAny_mono (el _ A' E' cc u s₂ m₂ rfl rfl hn hm (fun b o e => seen s₂ hk b o (baseP b o e) (J.bk b o e)) gl2) (fun y s3 r => ⟨⟨cc, hcc, r.1⟩, r.2⟩) fun _ _ e => e
    · intro g h5 tk5 gst hgb hag hsz5 hk5 W5 hat
      have ep : passing (fun _ : Nat => true) a.cps.size 0 = List.range a.cps.size := GxR.passing_true a.cps.size
      simp only [ep, List.length_range] at W5
      refine fin a H1 g _ r ⟨_, _, _, _, _, W5.in4_1, hat, ?_, fun s' hm => ?_⟩
      · intro j y sj Qj Ej hy hQj
        obtain ⟨i, hij, cc, hcc, rfl⟩ := hy
        obtain ⟨hj, ej⟩ := List.getElem?_eq_some_iff.mp hij
        rw [List.getElem_range] at ej
        subst ej
        have e9 : a.cps.toList[j]? = some cc := by rw [Array.getElem?_toList]; exact hcc
        have hQ2 : Qj (trF pb a.cps.toList j) sj := hQj
        rw [trF_some e9] at hQ2
        exact wpAny_truthy_bool hQ2
      · obtain ⟨more, em⟩ := grown
        have nwr : ∀ b u, s1.heap.get? b = some u → b ∉ h3.objs.size :: [s1.heap.objs.size] := fun b u e hb => by
          have hl := Heap.lt_size e
          rcases List.mem_cons.mp hb with z | z
          · have h9 : (h3.objs.size : Nat) < s1.heap.objs.size := by rw [z] at hl; exact hl
            omega
          · exact Nat.ne_of_lt hl (List.mem_singleton.mp z)
        have after := inv_tab (more := more) (h' := s'.heap) (g' := s'.gens) (d' := s'.drawn) (t' := s'.toks) J tP (fun b u hb e => hm.heap b u (nwr b u e) (hk5 b u (kept b u hb e)))
          (by rw [← em]; exact hm.heap P _ (nwr P _ atP) (hk5 P _ atP3)) (AllBare.movedS (J.bare.push hgb) hm)
        rw [sh_eta s1 s' hm.os] at after
        exact ⟨upd H1 P (.tbl (ps ++ more)), ⟨⟨ps ++ more, upd_same, by rw [← em]; exact trip3⟩, fun b hb => upd_ne hb⟩, after⟩
  refine ⟨lim, ?_⟩
  cases hf : codeAmong gpos ps.toList with
  | none =>
    refine wpAny_genexprCodeX code (head.code atP' trip) (head.tab atP') hf fun c' h' tk hx hge hlt hco' _ htab' _ => ?_
    obtain ⟨o1, vs, f1, tf, fl, tg, inF, tx, tt, op, _, _, _, _, _, _, _, _, _, htr, _⟩ := hco'
    exact after _ h' tk _ hx (Nat.le_trans hge (Nat.le_of_lt hlt)) htab'.2 ⟨_, rfl⟩ htr
  | some cv =>
    refine wpAny_genexprCode_hit code (head.code atP' trip) hf ?_
    exact after cv (s1.heap.push o) s1.toks ps (Heap.ExtBut.refl _ _) (Nat.le_refl _) atP' ⟨#[], by simp⟩ trip
theorem pe_allG {c P : Addr} {elt iter : Expr} {x : Str} {px p pos gpos : Pos} {scope : Scope} {pb : Nat → Bool} {te : TE} {k : Nat}
    (room : Room k X.A) (hg : Gl X "all") (hm : X.mg "all" = none) (tb : TabB X.base X.mg c P) (code : X.env.code = .ref c) (gs : GenS X.env scope x) (it : PE X iter te) (el : EltG X scope x elt pb)
    (fold : ∀ v, genFold iter X.env v = pure v := by intro _; rfl)
    (he : starEach [.GeneratorExp elt [⟨.Name x px, iter, [], 0⟩] scope gpos] X.env = (false, eval (.GeneratorExp elt [⟨.Name x px, iter, [], 0⟩] scope gpos) X.env) :: starEach [] X.env := by rfl) :
    PE X (.Call (.Name "all" p) [.GeneratorExp elt [⟨.Name x px, iter, [], 0⟩] scope gpos] [] pos) (tAllS P pb te) := by
  refine ⟨fun pins s σ H Q I h => ?_⟩
  refine wpAny_Call_Name_kw (ld_blt (u := .builtin "all") I hg hm (by decide +kernel) ?_)
  refine PyProof.Rows.callWith_builtin1 ?_ he (by rfl)
  rw [he]
  show wpAny _ _ (spliced ((false, eval (.GeneratorExp elt [⟨.Name x px, iter, [], 0⟩] scope gpos) X.env) :: backTo pos (starEach [] X.env))) _ _ s
  refine Calls.spliced_cons (gen_G (R := fun a H1 => ∀ H2, Tabbed P H1 H2 → Q (.bl (a.cps.toList.all pb)) H2) room tb code gs it el fold I h fun a H1 g s5 hR hG => ?_)
  obtain ⟨fp, wr, G, F, St, W, hst, htr, hI⟩ := hG
  refine Calls.spliced_nil ?_
  refine call_all_walkS (W.self 0 _ _ _ hst ⟨g, fp, wr, G, _, F, St, _, rfl, W, hst, htr, fun s' hmv => ?_⟩)
  obtain ⟨H2, hT, J⟩ := hI s' hmv
  refine ⟨.bl _, H2, J, rfl, ?_⟩
  rw [all_signs a pb]
  exact hR H2 hT
end
end Gx

set_option Elab.async false
set_option linter.all false
set_option maxRecDepth 100000
set_option maxHeartbeats 2000000
/-! What all these proofs share: a def by its name, kinds of things, the pen that draws. -/
namespace Gx
open PySem PySem.Spec PyProof.Rows L2 GxR
/-! ### a def of the module, by its name -/
structure Dn (P : Program) (w : World) (K : PySem.W.Frag) (mg : Str → Option Value) (base : Heap) (k : Nat) (x : Str) (ps : List Str) (sp : Sp) : Prop where
  ex : ∃ (f : Addr) (fd : FuncData), mg x = some (.ref f) ∧ PySem.W.keepIn K (.ref f) = true ∧ Binds K fd ps [] ∧ FnOk P w K mg base CX0 k f fd ps sp
section
variable {X : Cx} {k : Nat} {x : Str} {ps : List Str} {sp : Sp} {p pos : Pos} {e : Expr} {es : List Expr} {t : TA}
theorem pe_dn (D : Dn X.prog X.w X.K X.mg X.base k x ps sp) (hr : Room k X.A) (hg : Gl X x) (ha : PA X (e :: es) t) (hdb : (x == ("__debug__" : Str)) = false := by decide)
    (he : starEach (e :: es) X.env = (false, eval e X.env) :: starEach es X.env := by rfl) (hpl : (backTo pos (starEach es X.env)).any (·.1) = false := by rfl) :
    PE X (.Call (.Name x p) (e :: es) [] pos) (tCall sp [] E0 t) := by
  obtain ⟨f, fd, hm, hk, hb, F⟩ := D.ex
  exact pe_call F hr hg hm hk hb .nil pass0 ha hdb he hpl
theorem pe_dn0 (D : Dn X.prog X.w X.K X.mg X.base k x ps sp) (hr : Room k X.A) (hg : Gl X x) (hdb : (x == ("__debug__" : Str)) = false := by decide) :
    PE X (.Call (.Name x p) [] [] pos) (tCall sp [] E0 tNil) := by
  obtain ⟨f, fd, hm, hk, hb, F⟩ := D.ex
  exact pe_call0 F hr hg hm hk hb .nil pass0 hdb
end
section
variable {P : Program} {w : World} {K : PySem.W.Frag} {mg : Str → Option Value} {base : Heap}
/-- a def whose code object is told -/
theorem okC {x qual : Str} {params : Arguments} {body : List Stmt} {scope : Scope} {dvs : List V} {kws : List (Str × V)} {d : He.Defn} {fd : FuncData} {CX : CXT} {N ps : List Str} {k : Nat} {sp : Sp}
    (F : FunD K x qual params body scope dvs kws (He.fAd K d) fd) (S : FnScope N ps scope) (len : ∀ vs H Q E, sp vs H Q E → vs.length = ps.length)
    (hbody : ∀ (c : Value) (A : Around) (outer : List Env) (s : Shared) (H : Hp) (vs : List V) (Q : VK) (E : XK), c = .ref (He.codeOf K d) → Room k (A.deeper (envOfC qual scope s.heap.objs.size (He.fAd K d) c)) → sp vs H Q E →
      ∃ t, PSs (cxOf CX P w K mg base N qual scope (He.fAd K d) c A outer s H E) body t ∧ t { nx := fun _ H' => Q .non H', rt := Q } (start N vs) H) : FnOk P w K mg base CX (k + 1) (He.fAd K d) fd ps sp := by
  obtain ⟨oc, od, dV, kV, doc, pm, an, cdv, ct, osl, rfl, lk, hcd, _, _⟩ := F.ex
  obtain ⟨c, rfl⟩ := He.codeIn_ref hcd
  exact fn_of lk hcd S len fun A outer s H vs Q E hr hsp => hbody _ A outer s H vs Q E (congrArg Value.ref (He.codeOf_eq lk rfl).symm) hr hsp
end
theorem iteNb {b : Bool} {A B : Prop} (h1 : b = false → A) (h2 : b = true → B) : if (!b) = true then A else B := by
  cases b with
  | false => exact h1 rfl
  | true => exact iteF (h2 rfl)
theorem iteB {b : Bool} {A B : Prop} (h1 : b = true → A) (h2 : b = false → B) : if b = true then A else B := by
  cases b with
  | true => exact h1 rfl
  | false => exact iteF (h2 rfl)
theorem at_any {α : Type} {xs : List α} {z : Int} {j : Nat} {v : α} (e : z = (j : Int)) (h : xs[j]? = some v) : atI xs z = some v := by
  rw [e]
  exact atI_nat h
/-- two ways that meet again with some number -/
theorem viaInt {A : Prop} {R : Int → Prop} (h : (∀ c, R c) → A) (r : ∀ c, R c) : A := h r
section
variable {P : Program} {w : World} {K : PySem.W.Frag} {mg : Str → Option Value} {base : Heap} {x qual : Str} {params : Arguments} {body : List Stmt} {scope : Scope} {dvs : List V} {kws : List (Str × V)} {N ps : List Str} {k : Nat} {sp : Sp}
/-- a def that raises nothing -/
theorem okN {f : Addr} {fd : FuncData} {CX : CXT} (F : FunD K x qual params body scope dvs kws f fd) (S : FnScope N ps scope) (len : ∀ vs H Q E, sp vs H Q E → vs.length = ps.length)
    (hbody : ∀ (c : Value) (A : Around) (outer : List Env) (s : Shared) (H : Hp) (vs : List V) (Q : VK) (E : XK), Room k (A.deeper (envOfC qual scope s.heap.objs.size f c)) → sp vs H Q E →
      ∃ t, PSs (cxOf CX P w K mg base N qual scope f c A outer s H E).nox body t ∧ t { nx := fun _ H' => Q .non H', rt := Q } (start N vs) H) : FnOk P w K mg base CX (k + 1) f fd ps sp :=
  F.ok S len fun c A outer s H vs Q E hr h => let ⟨t, ht, q⟩ := hbody c A outer s H vs Q E hr h; ⟨t, ht.nox, q⟩
theorem okCN {d : He.Defn} {fd : FuncData} {CX : CXT} (F : FunD K x qual params body scope dvs kws (He.fAd K d) fd) (S : FnScope N ps scope) (len : ∀ vs H Q E, sp vs H Q E → vs.length = ps.length)
    (hbody : ∀ (c : Value) (A : Around) (outer : List Env) (s : Shared) (H : Hp) (vs : List V) (Q : VK) (E : XK), c = .ref (He.codeOf K d) → Room k (A.deeper (envOfC qual scope s.heap.objs.size (He.fAd K d) c)) → sp vs H Q E →
      ∃ t, PSs (cxOf CX P w K mg base N qual scope (He.fAd K d) c A outer s H E).nox body t ∧ t { nx := fun _ H' => Q .non H', rt := Q } (start N vs) H) : FnOk P w K mg base CX (k + 1) (He.fAd K d) fd ps sp :=
  okC F S len fun c A outer s H vs Q E hc hr h => let ⟨t, ht, q⟩ := hbody c A outer s H vs Q E hc hr h; ⟨t, ht.nox, q⟩
end
/-- a generator's scope that takes nothing from the def around it -/
theorem gs_plain {env : Env} {scope : Scope} {x : Str} (h1 : scope.kind = .function) (h2 : scope.isCoroutine = false) (h3 : scope.names.lookup (".0" : Str) = some NameKind.local) (h4 : scope.names.lookup x = some .local)
    (h5 : (scope.names.all fun y => decide (y.2 ≠ .cell) && decide (y.2 ≠ .free)) = true) : GenS env scope x := by
  have h6 := List.all_eq_true.mp h5
  refine ⟨h1, h2, fun y hy => ?_, h3, h4, fun y hy e => ?_⟩
  · have h7 := h6 y hy
    rw [Bool.and_eq_true] at h7
    exact of_decide_eq_true h7.1
  · have h7 := h6 y hy
    rw [Bool.and_eq_true] at h7
    exact absurd e (of_decide_eq_true h7.2)
/-! ### text * number -/
theorem op_mul_str {X : Cx} : OpR X (binaryOp .Mult) (fun x y H Q => ∃ (z : Str) (n : Int), x = .str z ∧ y = .int n ∧ MulOk z n ∧ Q (.str (Txt.mul z n)) H) := by
  intro pins s σ H x y v u Q I rx ry h
  obtain ⟨z, n, rfl, rfl, ok, q⟩ := h
  obtain ⟨t, rfl⟩ := rx
  obtain ⟨t', rfl⟩ := ry
  exact SB.mul ok fun t2 k => ⟨.str _, H, I.tok k, ⟨_, rfl⟩, q⟩
theorem mulOk {z : Str} {n : Int} (h1 : z.length ≤ 1000) (h2 : 0 ≤ n) (h3 : n ≤ 1000) : MulOk z n := by
  refine ⟨?_, fun h4 _ => ?_, fun h4 _ => ?_⟩
  · have a1 : ¬ n < -(2 ^ 63 : Int) := by omega
    have a2 : ¬ n ≥ 2 ^ 63 := by omega
    rw [decide_eq_false a1, decide_eq_false a2] <;> rfl
  · have h6 : (z.length : Int) * n ≤ 1000 * 1000 := Int.mul_le_mul (by omega) h3 h2 (by decide)
    have h5 : (z.length : Int) ≤ (2 ^ 63 - 1) / n := Int.le_ediv_of_mul_le (by omega) (by omega)
    omega
  · have h6 : z.length * n.toNat ≤ 1000 * 1000 := Nat.mul_le_mul h1 (by omega)
    show decide (z.length * n.toNat > sizeLine) = false
    exact decide_eq_false (by rw [sizeLine_eq]; omega)
/-! ### kinds of things -/
/-- a thing that the laws hand in: its type is known -/
inductive Th (H : Hp) : V → Prop where
  | non : Th H .non
  | bl (b : Bool) : Th H (.bl b)
  | int (i : Int) : Th H (.int i)
  | str (z : Str) : Th H (.str z)
  | lst {a : Addr} {xs : List V} (e : H a = some (.lst xs)) : Th H (.ref a)
  | tup {a : Addr} {xs : List V} (e : H a = some (.tup xs)) : Th H (.ref a)
  | dK {a : Addr} {kvs : List (Key × V)} (e : H a = some (.dK kvs)) : Th H (.ref a)
def isStr : V → Bool
  | .str _ => true
  | _ => false
def isBl : V → Bool
  | .bl _ => true
  | _ => false
theorem Th.str_ {K : PySem.W.Frag} {H : Hp} {v : V} (h : Th H v) : ∃ t, TyX K H v t ∧ PySem.W.kitOne K t (.type "str") = some (isStr v) := by
  cases h with
  | non => exact ⟨_, .base .non, kit_ty (r := false) (by decide +kernel)⟩
  | bl b => exact ⟨_, .base (.bl b), kit_ty (r := false) (by decide +kernel)⟩
  | int i => exact ⟨_, .base (.int i), kit_ty (r := false) (by decide +kernel)⟩
  | str z => exact ⟨_, .base (.str z), kit_ty (r := true) (by decide +kernel)⟩
  | lst e => exact ⟨_, .base (.lst e), kit_ty (r := false) (by decide +kernel)⟩
  | tup e => exact ⟨_, .base (.tup e), kit_ty (r := false) (by decide +kernel)⟩
  | dK e => exact ⟨_, .base (.dK e), kit_ty (r := false) (by decide +kernel)⟩
/-! ### names -/
def LETS : Str := "abcdefghijklmnopqrstuvwxyz"
def FIGS : Str := "0123456789"
def isLet (c : Nat) : Bool := decide (c ∈ LETS.cps.toList)
def isFig (c : Nat) : Bool := decide (c ∈ FIGS.cps.toList)
def nameB (z : Str) : Bool := decide (1 ≤ (z.length : Int)) && (decide ((z.length : Int) ≤ 8) && ((match z.cps.toList with
  | [] => false
  | c :: _ => isLet c) && z.cps.toList.all fun c => isLet c || isFig c))
def nameV : V → Bool
  | .str z => nameB z
  | _ => false
theorem nameV_no {v : V} (h : isStr v = false) : nameV v = false := by
  cases v <;> first | rfl | cases h
theorem cps_len (z : Str) : z.cps.toList.length = z.length := by simp [Str.length]
theorem head_of {z : Str} (h : 1 ≤ (z.length : Int)) : ∃ c r, z.cps.toList = c :: r := by
  have hl := cps_len z
  cases e : z.cps.toList with
  | nil =>
    rw [e] at hl
    have h1 : (0 : Nat) = z.length := hl
    omega
  | cons c r => exact ⟨c, r, rfl⟩
theorem all_id {l : List Nat} {pb : Nat → Bool} : (l.map pb).all id = l.all pb := by
  rw [List.all_map] <;> rfl
theorem both_lets (c : Nat) : decide (c ∈ (LETS ++ FIGS).cps.toList) = (isLet c || isFig c) := by
  have e : (LETS ++ FIGS).cps.toList = LETS.cps.toList ++ FIGS.cps.toList := by
    show (LETS.cps ++ FIGS.cps).toList = _
    rw [Array.toList_append]
  unfold isLet isFig
  rw [e, Bool.eq_iff_iff, decide_eq_true_eq, List.mem_append, Bool.or_eq_true, decide_eq_true_eq, decide_eq_true_eq]
/-- a list over a text's signs -/
theorem lc_str {z : Str} {g : TG} {tt : TT} {te : TE} {vs : List Nat} {σ : L2.St} {H1 : Hp} {D : Addr} {Qd : Hp → Prop} (Pv : Nat → Hp → Prop) (h0 : Pv 0 (upd H1 D (.lst [])))
    (hs : ∀ i c H, z.cps.toList[i]? = some c → Pv i H → g (.str ⟨#[c]⟩) (wipe σ vs) H fun σ2 H2 => wipe σ2 vs = wipe σ vs ∧ tt σ2 H2 fun b H3 =>
      if b = true then te σ2 H3 fun y H4 => ∃ acc, H4 D = some (.lst acc) ∧ acc.length < sizeLine ∧ Pv (i + 1) (upd H4 D (.lst (acc ++ [y]))) else Pv (i + 1) H3) (hd : ∀ H, Pv z.cps.toList.length H → Qd H) :
    ∃ W : Nat → Nat → Hp → Prop, (∃ m, W 0 m (upd H1 D (.lst []))) ∧ ∀ i m H, W i m H →
      ((Its z).stop i H ∧ Qd H) ∨ ((Its z).go i H ∧ ∃ Nx : Hp → Prop, (∀ H', Nx H' → ∃ m', m' < m ∧ W (i + 1) m' H') ∧ ∀ x H', (Its z).yld i H x H' → g x (wipe σ vs) H' fun σ2 H2 => wipe σ2 vs = wipe σ vs ∧ tt σ2 H2 fun b H3 =>
        if b = true then te σ2 H3 fun y H4 => ∃ acc, H4 D = some (.lst acc) ∧ acc.length < sizeLine ∧ Nx (upd H4 D (.lst (acc ++ [y]))) else Nx H3) := by
  have el : z.cps.toList.length = z.cps.size := Array.length_toList
  refine ⟨fun i m H => m = z.cps.size - i ∧ i ≤ z.cps.size ∧ Pv i H, ⟨_, rfl, Nat.zero_le _, h0⟩, ?_⟩
  rintro i m H ⟨rfl, hi, pv⟩
  rcases Nat.lt_or_ge i z.cps.size with lt | ge
  · refine .inr ⟨lt, Pv (i + 1), fun H' q => ⟨_, Nat.sub_succ_lt_self _ _ lt, rfl, lt, q⟩, ?_⟩
    rintro x H' ⟨rfl, c, ec, rfl⟩
    exact hs i c _ (by rw [Array.getElem?_toList]; exact ec) pv
  · obtain rfl : i = z.cps.size := Nat.le_antisymm hi ge
    exact .inl ⟨Nat.le_refl _, hd H (by rw [el]; exact pv)⟩
theorem bls_take {l : List Nat} {pb : Nat → Bool} {i c : Nat} (h : l[i]? = some c) : (l.take (i + 1)).map pb = (l.take i).map pb ++ [pb c] := by
  rw [List.take_add_one, h, List.map_append] <;> rfl
/-! ### the pen -/
structure Pen (H : Hp) (p L : Addr) (ns : List Int) (n : Nat) : Prop where
  at_ : ∃ a r : Int, H p = some (.lst [.ref L, .int a, .int r]) ∧ 0 ≤ a ∧ a ≤ n
  ls : H L = some (.lst (ns.map V.int))
  few : ns.length ≤ 63
theorem Pen.ne {H : Hp} {p L : Addr} {ns : List Int} {n : Nat} (h : Pen H p L ns n) : p ≠ L := by
  intro e
  obtain ⟨a, r, h1, _⟩ := h.at_
  have h2 := h.ls
  rw [← e, h1] at h2
  have h3 := HO.lst.inj (Option.some.inj h2)
  cases ns with
  | nil => cases h3
  | cons z r => cases (List.cons.inj h3).1
theorem Pen.up {H : Hp} {p L : Addr} {ns : List Int} {n m : Nat} (h : Pen H p L ns n) (hm : n ≤ m) : Pen H p L ns m := by
  obtain ⟨⟨a, r, h1, h2, h3⟩, h4, h5⟩ := h
  exact ⟨⟨a, r, h1, h2, by omega⟩, h4, h5⟩
/-- set anew -/
theorem Pen.put {H : Hp} {p L : Addr} {ns : List Int} {n m : Nat} {a r : Int} (h : Pen H p L ns n) (h1 : 0 ≤ a) (h2 : a ≤ m) : Pen (upd H p (.lst [.ref L, .int a, .int r])) p L ns m :=
  ⟨⟨a, r, upd_same, h1, h2⟩, by rw [upd_ne h.ne.symm]; exact h.ls, h.few⟩
theorem Pen.keep {H H' : Hp} {p L : Addr} {ns : List Int} {n : Nat} (h : Pen H p L ns n) (hp : H' p = H p) (hl : H' L = H L) : Pen H' p L ns n := by
  obtain ⟨⟨a, r, h1, h2, h3⟩, h4, h5⟩ := h
  exact ⟨⟨a, r, by rw [hp]; exact h1, h2, h3⟩, by rw [hl]; exact h4, h5⟩
theorem Pen.keep' {H H' : Hp} {p L : Addr} {ns : List Int} {n : Nat} (h : Pen H p L ns n) (k : Same H H') : Pen H' p L ns n := by
  obtain ⟨⟨a, r, h1, h2, h3⟩, h4, h5⟩ := h
  exact ⟨⟨a, r, k _ _ h1, h2, h3⟩, k _ _ h4, h5⟩
/-- only the pen has changed -/
def But (p : Addr) (H H' : Hp) : Prop := ∀ b, b ≠ p → H' b = H b
theorem But.refl {p : Addr} {H : Hp} : But p H H := fun _ _ => rfl
theorem But.trans {p : Addr} {H H1 H2 : Hp} (a : But p H H1) (b : But p H1 H2) : But p H H2 := fun c h => (b c h).trans (a c h)
theorem But.upd {p : Addr} {H : Hp} {o : HO} : But p H (upd H p o) := fun _ h => upd_ne h
theorem strAt {z : Str} {k : Int} (h0 : 0 ≤ k) (h1 : k < (z.length : Int)) : ∃ c, atI z.cps.toList k = some c := by
  obtain ⟨j, rfl⟩ : ∃ j : Nat, k = (j : Int) := ⟨_, (Int.toNat_of_nonneg h0).symm⟩
  have hj : j < z.cps.toList.length := by rw [cps_len]; omega
  exact ⟨_, atI_nat (List.getElem?_eq_getElem hj)⟩
theorem listAt {xs : List V} {k : Int} (h0 : 0 ≤ k) (h1 : k < (xs.length : Int)) : ∃ v, atI xs k = some v ∧ v ∈ xs := by
  obtain ⟨j, rfl⟩ : ∃ j : Nat, k = (j : Int) := ⟨_, (Int.toNat_of_nonneg h0).symm⟩
  have hj : j < xs.length := by omega
  exact ⟨_, atI_nat (List.getElem?_eq_getElem hj), List.getElem_mem hj⟩
/-- what was tracked, but for the pen, is as it was -/
def Kp (p : Addr) (H H' : Hp) : Prop := ∀ b o, H b = some o → b ≠ p → H' b = some o
theorem Kp.refl {p : Addr} {H : Hp} : Kp p H H := fun _ _ h _ => h
theorem Kp.trans {p : Addr} {H H1 H2 : Hp} (a : Kp p H H1) (b : Kp p H1 H2) : Kp p H H2 := fun c o h n => b c o (a c o h n) n
theorem But.kp {p : Addr} {H H' : Hp} (a : But p H H') : Kp p H H' := fun b o h n => (a b n).trans h
theorem Kp.new {p D : Addr} {H : Hp} {o : HO} (h : H D = none) : Kp p H (upd H D o) := fun b u e _ => by rw [upd_ne (ne_of_none e h)]; exact e
theorem Pen.new {H : Hp} {p L D : Addr} {ns : List Int} {n : Nat} {o : HO} (h : Pen H p L ns n) (hD : H D = none) : Pen (upd H D o) p L ns n := by
  obtain ⟨a, r, h1, _⟩ := h.at_
  exact h.keep (upd_ne (ne_of_none h1 hD)) (upd_ne (ne_of_none h.ls hD))
theorem Pen.lt_new {H : Hp} {p L D : Addr} {ns : List Int} {n : Nat} (h : Pen H p L ns n) (hD : H D = none) : D ≠ p := by
  obtain ⟨a, r, h1, _⟩ := h.at_
  exact (ne_of_none h1 hD).symm
theorem cut63 {xs : List V} (h : xs.length ≤ 63) : cutV xs none (some 63) = xs := by
  unfold cutV
  rw [HT.sIx_none, show HT.sIx xs.length xs.length (some 63) = min 63 xs.length from HT.sIx_nat xs.length xs.length 63, Nat.min_eq_right h, Nat.sub_zero, List.drop_zero]
  exact List.take_length
theorem len_add (a b : Str) : (a ++ b).length = a.length + b.length := by
  show (a.cps ++ b.cps).size = _
  rw [Array.size_append] <;> rfl
theorem len_one (c : Nat) : (⟨#[c]⟩ : Str).length = 1 := rfl
theorem ones_sum : ∀ {ys : List Str}, (∀ y ∈ ys, y.length = 1) → (ys.map (·.length)).sum = ys.length
  | [], _ => rfl
  | y :: r, h => by
    have ih := ones_sum (ys := r) fun z hz => h z (List.mem_cons_of_mem _ hz)
    have h1 := h y List.mem_cons_self
    show (y.length :: r.map (·.length)).sum = r.length + 1
    rw [List.sum_cons, ih, h1]
    omega
theorem ones_join {ys : List Str} (h : ∀ y ∈ ys, y.length = 1) : (Txt.join ("" : Str) ys).length ≤ ys.length := by
  have h2 := StrLaws.join_length_le ("" : Str) ys
  rw [ones_sum h, show ("" : Str).length = 0 by decide +kernel, Nat.mul_zero, Nat.add_zero] at h2
  rw [show Txt.join ("" : Str) ys = Str.join ("" : Str) ys from StrLaws.glued_eq_join ("" : Str) ys]
  exact h2
theorem mul_len {z : Str} (h : z.length ≤ 20) : (Txt.mul z 2).length ≤ 40 := by
  unfold Txt.mul
  rw [if_neg (by decide)]
  split
  · omega
  · show ((List.replicate 2 z.cps).foldl (· ++ ·) #[]).size ≤ 40
    show ((#[] ++ z.cps) ++ z.cps).size ≤ 40
    rw [Array.size_append, Array.size_append]
    have h2 : z.cps.size ≤ 20 := h
    show 0 + z.cps.size + z.cps.size ≤ 40
    omega
/-- what was tracked, but for a table, is as it was -/
theorem Th.kt {H H' : Hp} {P' : Addr} {v : V} (h : Th H v) (g : TabG H P') (k : ∀ b o, H b = some o → b ≠ P' → H' b = some o) : Th H' v := by
  obtain ⟨ps, g, _⟩ := g
  cases h with
  | non => exact .non
  | bl b => exact .bl b
  | int i => exact .int i
  | str z => exact .str z
  | lst e => exact .lst (k _ _ e (ne_of e g (fun q => by cases q)))
  | tup e => exact .tup (k _ _ e (ne_of e g (fun q => by cases q)))
  | dK e => exact .dK (k _ _ e (ne_of e g (fun q => by cases q)))
theorem tabbedKt {P' : Addr} {H H' : Hp} (h : Tabbed P' H H') : ∀ b o, H b = some o → b ≠ P' → H' b = some o := fun b o e n => (h.2 b n).trans e
theorem Pen.kt {H H' : Hp} {p L P' : Addr} {ns : List Int} {n : Nat} (h : Pen H p L ns n) (g : TabG H P') (k : ∀ b o, H b = some o → b ≠ P' → H' b = some o) : Pen H' p L ns n := by
  obtain ⟨ps, g, _⟩ := g
  obtain ⟨⟨a, r, h1, h2, h3⟩, h4, h5⟩ := h
  exact ⟨⟨a, r, k _ _ h1 (ne_of h1 g (fun q => by cases q)), h2, h3⟩, k _ _ h4 (ne_of h4 g (fun q => by cases q)), h5⟩
theorem tabSame {P' : Addr} {H H' : Hp} (g : TabG H P') (k : Same H H') : TabG H' P' := by
  obtain ⟨ps, g, t⟩ := g
  exact ⟨ps, k _ _ g, t⟩
theorem tabKp {p P' : Addr} {H H' : Hp} {a : List V} (g : TabG H P') (hp : H p = some (.lst a)) (k : Kp p H H') : TabG H' P' := by
  obtain ⟨ps, g, t⟩ := g
  exact ⟨ps, k _ _ g (ne_of g hp (fun q => by cases q)), t⟩
theorem Pen.tab {H H' : Hp} {p L P' : Addr} {ns : List Int} {n : Nat} (h : Pen H p L ns n) (g : TabG H P') (k : Kp p H H') : TabG H' P' := by
  obtain ⟨a, r, h1, _⟩ := h.at_
  exact tabKp g h1 k
theorem same_new {D : Addr} {H : Hp} {o : HO} (h : H D = none) : Same H (upd H D o) := fun b u e => by rw [upd_ne (ne_of_none e h)]; exact e
theorem sameKp {p : Addr} {H H' : Hp} (h : Same H H') : Kp p H H' := fun b o e _ => h b o e
/-- a thing of known type, a text that is not too long -/
def Ok1 (H : Hp) (v : V) : Prop := Th H v ∧ ∀ z, v = .str z → z.length ≤ sizeLine
theorem Th.same {H H' : Hp} {v : V} (h : Th H v) (k : Same H H') : Th H' v := by
  cases h with
  | non => exact .non
  | bl b => exact .bl b
  | int i => exact .int i
  | str z => exact .str z
  | lst e => exact .lst (k _ _ e)
  | tup e => exact .tup (k _ _ e)
  | dK e => exact .dK (k _ _ e)
theorem ok_str {H : Hp} {z : Str} (h : z.length ≤ sizeLine) : Ok1 H (.str z) := ⟨.str z, fun _ e => by cases e; exact h⟩
theorem ok_ref {H : Hp} {a : Addr} (h : Th H (.ref a)) : Ok1 H (.ref a) := ⟨h, fun _ e => nomatch e⟩
def spDraw : Sp := fun vs H Q _ => ∃ (p L : Addr) (ns : List Int) (n : Nat) (many : Int), vs = [.ref p, .int many] ∧ Pen H p L ns n ∧ 0 < many ∧ many < 1000000 ∧ n < 1000000 ∧
  ∀ (k : Int) (H' : Hp), 0 ≤ k → k < many → Pen H' p L ns (n + 1) → But p H H' → Q (.int k) H'
end Gx

set_option Elab.async false
set_option linter.all false
set_option maxRecDepth 100000
set_option maxHeartbeats 2000000
/-! Data of tuples alone: masters as the laws draw them, told by records. -/
namespace Gd
open PySem PySem.Spec PyProof.Rows L2 GxR Gx
mutual
/-- no list, no dict in it: nothing in it can change -/
def noL : PyData → Bool
  | .tuple ds => noLAll ds
  | .list _ => false
  | .dict _ => false
  | _ => true
def noLAll : List PyData → Bool
  | [] => true
  | d :: r => noL d && noLAll r
end
mutual
theorem dpT_keep {K : PySem.W.Frag} {H H' : Hp} (kt : ∀ a xs, SqT K H a xs → SqT K H' a xs) : ∀ {v : V} {d : PyData}, Dp K H v d → noL d = true → Dp K H' v d
  | _, _, .non, _ => .non
  | _, _, .bl b, _ => .bl b
  | _, _, .int i, _ => .int i
  | _, _, .str x, _ => .str x
  | _, _, .lst s h, n => by
    simp only [noL] at n
    cases n
  | _, _, .tup s h, n => by
    simp only [noL] at n
    exact .tup (kt _ _ s) (dpTAll_keep kt h n)
theorem dpTAll_keep {K : PySem.W.Frag} {H H' : Hp} (kt : ∀ a xs, SqT K H a xs → SqT K H' a xs) : ∀ {vs : List V} {ds : List PyData}, DpAll K H vs ds → noLAll ds = true → DpAll K H' vs ds
  | _, _, .nil, _ => .nil
  | _, _, .cons h t, n => by
    simp only [noLAll, Bool.and_eq_true] at n
    exact .cons (dpT_keep kt h n.1) (dpTAll_keep kt t n.2)
end
theorem noL_all : ∀ {ds : List PyData}, (∀ d ∈ ds, noL d = true) → noLAll ds = true
  | [], _ => by simp only [noLAll]
  | d :: r, h => by simp only [noLAll, h d List.mem_cons_self, noL_all fun x hx => h x (List.mem_cons_of_mem _ hx), Bool.and_self]
section
variable {K : PySem.W.Frag} {H : Hp}
theorem dp_tup {v : V} {ds : List PyData} (h : Dp K H v (.tuple ds)) : ∃ a xs, v = .ref a ∧ SqT K H a xs ∧ DpAll K H xs ds := by
  cases h with
  | tup s h => exact ⟨_, _, rfl, s, h⟩
theorem dp_str {v : V} {z : Str} (h : Dp K H v (.str z)) : v = .str z := by
  cases h
  rfl
theorem dp_int {v : V} {i : Int} (h : Dp K H v (.int i)) : v = .int i := by
  cases h
  rfl
theorem dp_non {v : V} (h : Dp K H v .none) : v = .non := by
  cases h
  rfl
theorem dpAll_len : ∀ {xs : List V} {ds : List PyData}, DpAll K H xs ds → xs.length = ds.length
  | _, _, .nil => rfl
  | _, _, .cons _ t => congrArg (· + 1) (dpAll_len t)
theorem dpAll_get : ∀ {xs : List V} {ds : List PyData} {i : Nat} {d : PyData}, DpAll K H xs ds → ds[i]? = some d → ∃ x, xs[i]? = some x ∧ Dp K H x d
  | _, _, 0, _, .cons h _, e => ⟨_, rfl, by cases e; exact h⟩
  | _, _, i + 1, _, .cons _ t, e => dpAll_get (i := i) t e
  | _, _, _, _, .nil, e => by cases e
theorem dpAll_of : ∀ {xs : List V} {ds : List PyData} {i : Nat} {x : V}, DpAll K H xs ds → xs[i]? = some x → ∃ d, ds[i]? = some d ∧ Dp K H x d
  | _, _, 0, _, .cons h _, e => ⟨_, rfl, by cases e; exact h⟩
  | _, _, i + 1, _, .cons _ t, e => dpAll_of (i := i) t e
  | _, _, _, _, .nil, e => by cases e
theorem dpAll_app : ∀ {xs ys : List V} {ds es : List PyData}, DpAll K H xs ds → DpAll K H ys es → DpAll K H (xs ++ ys) (ds ++ es)
  | _, _, _, _, .nil, h => h
  | _, _, _, _, .cons h t, h2 => .cons h (dpAll_app t h2)
theorem dpAll_take : ∀ {xs : List V} {ds : List PyData} (n : Nat), DpAll K H xs ds → DpAll K H (xs.take n) (ds.take n)
  | _, _, 0, _ => .nil
  | _, _, _ + 1, .nil => .nil
  | _, _, n + 1, .cons h t => .cons h (dpAll_take n t)
theorem dpAll_drop : ∀ {xs : List V} {ds : List PyData} (n : Nat), DpAll K H xs ds → DpAll K H (xs.drop n) (ds.drop n)
  | _, _, 0, h => h
  | _, _, _ + 1, .nil => .nil
  | _, _, n + 1, .cons _ t => dpAll_drop n t
theorem dpAll_strs : ∀ l : List Str, DpAll K H (l.map V.str) (l.map PyData.str)
  | [] => .nil
  | z :: r => .cons (.str z) (dpAll_strs r)
end
/-! ### records -/
structure PlM where
  name : Str
  sets : List (Str × PyData)
  text : Option (List Str)
def PlM.d (p : PlM) : PyData := .tuple [.str p.name, .tuple (p.sets.map fun s => .tuple [.str s.1, s.2]), match p.text with
  | none => .none
  | some l => .tuple (l.map .str)]
structure MaM where
  name : Str
  over : Option Str
  own : List PlM
def MaM.d (m : MaM) : PyData := .tuple [.str m.name, match m.over with
  | none => .none
  | some z => .str z, .tuple (m.own.map PlM.d)]
/-- worths are whole numbers or texts -/
def flatW : PyData → Bool
  | .int _ => true
  | .str _ => true
  | _ => false
theorem flat_noL {d : PyData} (h : flatW d = true) : noL d = true := by
  cases d with
  | int i => simp only [noL]
  | str z => simp only [noL]
  | _ => cases h
theorem PlM.noL {p : PlM} (h : ∀ s ∈ p.sets, flatW s.2 = true) : Gd.noL p.d = true := by
  unfold PlM.d
  have h1 : noLAll (p.sets.map fun s => PyData.tuple [.str s.1, s.2]) = true := noL_all fun d hd => by
    obtain ⟨s, hs, rfl⟩ := List.mem_map.mp hd
    simp only [Gd.noL, noLAll, flat_noL (h s hs), Bool.and_self]
  have h2 : ∀ l : List Str, noLAll (l.map PyData.str) = true := fun l => noL_all fun d hd => by
    obtain ⟨z, _, rfl⟩ := List.mem_map.mp hd
    simp only [Gd.noL]
  cases p.text with
  | none => simp only [Gd.noL, noLAll, h1, Bool.and_self]
  | some l => simp only [Gd.noL, noLAll, h1, h2 l, Bool.and_self]
theorem MaM.noL {m : MaM} (h : ∀ p ∈ m.own, ∀ s ∈ p.sets, flatW s.2 = true) : Gd.noL m.d = true := by
  unfold MaM.d
  have h1 : noLAll (m.own.map PlM.d) = true := noL_all fun d hd => by
    obtain ⟨p, hp, rfl⟩ := List.mem_map.mp hd
    exact PlM.noL (h p hp)
  cases m.over with
  | none => simp only [Gd.noL, noLAll, h1, Bool.and_self]
  | some z => simp only [Gd.noL, noLAll, h1, Bool.and_self]
/-! ### traits and worths -/
def TRS : List Str := ["left", "top", "wide", "high", "size", "ink"]
def bnd (z : Str) : Int × Int := if z = "left" then (-999, 999) else if z = "top" then (-999, 999) else if z = "size" then (1, 99) else (1, 999)
/-- a right worth of the trait z -/
def wOk (z : Str) : PyData → Bool
  | .int i => !decide (z = "ink") && (decide ((bnd z).1 ≤ i) && decide (i ≤ (bnd z).2))
  | .str s => decide (z = "ink") && nameB s
  | _ => false
theorem wOk_flat {z : Str} {d : PyData} (h : wOk z d = true) : flatW d = true := by
  cases d with
  | int i => rfl
  | str s => rfl
  | _ => cases h
theorem wOk_int {z : Str} {i : Int} (n : z ≠ "ink") (h1 : (bnd z).1 ≤ i) (h2 : i ≤ (bnd z).2) : wOk z (.int i) = true := by
  show (!decide (z = "ink") && (decide ((bnd z).1 ≤ i) && decide (i ≤ (bnd z).2))) = true
  rw [decide_eq_false n, decide_eq_true h1, decide_eq_true h2] <;> rfl
/-! ### lines -/
def gSign (c : Nat) : Bool := !decide (c < 32) && (!decide (126 < c) && (!decide (c = 37) && !decide (c = 92)))
/-- signs that may stand in a line -/
def okS (z : Str) : Prop := ∀ c ∈ z.cps.toList, gSign c = true
instance (z : Str) : Decidable (okS z) := inferInstanceAs (Decidable (∀ c ∈ z.cps.toList, gSign c = true))
theorem okS_add {a b : Str} (ha : okS a) (hb : okS b) : okS (a ++ b) := fun c hc => by
  have hc : c ∈ (a.cps ++ b.cps).toList := hc
  rw [Array.toList_append] at hc
  exact (List.mem_append.mp hc).elim (ha c) (hb c)
theorem okS_cut {z : Str} {lo hi : Option Int} (h : okS z) : okS (cutS z lo hi) := fun c hc => by
  have hc : c ∈ ((z.cps.toList.drop (HT.sIx z.length 0 lo)).take (HT.sIx z.length z.length hi - HT.sIx z.length 0 lo)).toArray.toList := hc
  rw [List.toList_toArray] at hc
  exact h c (List.mem_of_mem_drop (List.mem_of_mem_take hc))
theorem okS_joinS {sep : Str} (hs : okS sep) : ∀ {ys : List Str}, (∀ y ∈ ys, okS y) → okS (Str.join sep ys)
  | [], _ => fun c hc => nomatch hc
  | [y], h => h y List.mem_cons_self
  | y :: z :: r, h => okS_add (okS_add (h y List.mem_cons_self) hs) (okS_joinS hs fun x hx => h x (List.mem_cons_of_mem _ hx))
theorem okS_join {sep : Str} (hs : okS sep) {ys : List Str} (h : ∀ y ∈ ys, okS y) : okS (Txt.join sep ys) := by
  rw [show Txt.join sep ys = Str.join sep ys from StrLaws.glued_eq_join sep ys]
  exact okS_joinS hs h
theorem sum_le {m : Nat} : ∀ {ys : List Str}, (∀ y ∈ ys, y.length ≤ m) → (ys.map (·.length)).sum ≤ ys.length * m
  | [], _ => Nat.zero_le _
  | y :: r, h => by
    have ih := sum_le (ys := r) fun z hz => h z (List.mem_cons_of_mem _ hz)
    have h1 := h y List.mem_cons_self
    rw [List.map_cons, List.sum_cons, List.length_cons, Nat.succ_mul]
    omega
theorem cut_le {z : Str} {k : Nat} : (cutS z none (some (k : Int))).length ≤ k := by
  show (((z.cps.toList.drop (HT.sIx z.length 0 none)).take (HT.sIx z.length z.length (some (k : Int)) - HT.sIx z.length 0 none)).toArray).size ≤ k
  rw [List.size_toArray, List.length_take, show HT.sIx z.length z.length (some (k : Int)) = min k z.length from HT.sIx_nat z.length z.length k]
  omega
/-! ### tuples stay -/
section
variable {K : PySem.W.Frag} {H H' : Hp}
theorem sqT_by {a : Addr} {xs : List V} (h : SqT K H a xs) (k1 : ∀ o, H a = some (.tup o) → H' a = some (.tup o)) (k2 : ∀ o u, H a = some (.frz o u) → H' a = some (.frz o u)) : SqT K H' a xs := by
  rcases h with (h | ⟨o, h⟩) | h
  · exact .inl (.inl (k1 _ h))
  · exact .inl (.inr ⟨o, k2 _ _ h⟩)
  · exact .inr h
theorem sqT_same {a : Addr} {xs : List V} (s : Same H H') (h : SqT K H a xs) : SqT K H' a xs := sqT_by h (fun _ e => s _ _ e) fun _ _ e => s _ _ e
theorem sqT_kp {p a : Addr} {xs ys : List V} (hp : H p = some (.lst ys)) (s : Kp p H H') (h : SqT K H a xs) : SqT K H' a xs :=
  sqT_by h (fun _ e => s _ _ e (ne_of e hp fun q => nomatch q)) fun o u e => s _ _ e (ne_of e hp fun q => nomatch q)
/-- tuples that stand at H stand at H' -/
def KT (K : PySem.W.Frag) (H H' : Hp) : Prop := ∀ a xs, SqT K H a xs → SqT K H' a xs
theorem KT.refl : KT K H H := fun _ _ h => h
theorem KT.trans {H2 : Hp} (a : KT K H H') (b : KT K H' H2) : KT K H H2 := fun _ _ h => b _ _ (a _ _ h)
theorem KT.same (s : Same H H') : KT K H H' := fun _ _ h => sqT_same s h
theorem KT.kp {p : Addr} {ys : List V} (hp : H p = some (.lst ys)) (s : Kp p H H') : KT K H H' := fun _ _ h => sqT_kp hp s h
theorem KT.pen {p L : Addr} {ns : List Int} {n : Nat} (hP : Pen H p L ns n) (s : Kp p H H') : KT K H H' := by
  obtain ⟨a, r, hp, _⟩ := hP.at_
  exact KT.kp hp s
theorem KT.put {D : Addr} {ys zs : List V} (hD : H D = some (.lst ys)) : KT K H (upd H D (.lst zs)) := KT.kp hD fun b o e n => (upd_ne n).trans e
end
/-! ### right records -/
def goodL (ls : List Str) : Prop := ls.length ≤ 12 ∧ ∀ z ∈ ls, z.length ≤ 60 ∧ okS z
structure OkPl (p : PlM) : Prop where
  right : ∀ s ∈ p.sets, s.1 ∈ TRS ∧ wOk s.1 s.2 = true
  once : (p.sets.map (·.1)).Nodup
  text : ∀ ls, p.text = some ls → goodL ls
theorem OkPl.noL {p : PlM} (h : OkPl p) : Gd.noL p.d = true := PlM.noL fun s hs => wOk_flat (h.right s hs).2
theorem take_more {α : Type} {l : List α} {i : Nat} {x : α} (h : l[i]? = some x) : l.take (i + 1) = l.take i ++ [x] := by
  rw [List.take_add_one, h] <;> rfl
end Gd

set_option Elab.async false
set_option linter.all false
set_option maxRecDepth 100000
set_option maxHeartbeats 2000000
/-! Names as the laws draw them: right ones, each once. -/
namespace Gn
open PySem PySem.Spec PyProof.Rows L2 GxR Gx Gd
def BEG : List Str := ["", "", "a", "z9", "title", "m0m0m0", "b"]
/-- what the last two letters of a name tell -/
def code2 (z : Str) : Nat := match z.cps.toList.reverse with
  | y :: x :: _ => (x - 97) * 26 + (y - 97)
  | _ => 0
theorem toL (b : Str) (x y : Nat) : ((b ++ ⟨#[x]⟩) ++ ⟨#[y]⟩ : Str).cps.toList = b.cps.toList ++ [x] ++ [y] := by
  show ((b.cps ++ #[x]) ++ #[y]).toList = _
  rw [Array.toList_append, Array.toList_append]
theorem code2_of (b : Str) {m : Nat} (h : m < 676) : code2 ((b ++ ⟨#[97 + m / 26]⟩) ++ ⟨#[97 + m % 26]⟩) = m := by
  unfold code2
  rw [toL, List.reverse_append, List.reverse_append]
  show (97 + m / 26 - 97) * 26 + (97 + m % 26 - 97) = m
  omega
theorem let_at (k : Fin 26) : LETS.cps.toList[k.val]? = some (97 + k.val) := by
  revert k
  decide +kernel
theorem let_is (k : Fin 26) : isLet (97 + k.val) = true := by
  revert k
  decide +kernel
theorem nameB_by {z : Str} {c : Nat} {r : List Nat} (e : z.cps.toList = c :: r) (l : (c :: r).length ≤ 8) (h1 : isLet c = true) (h2 : (c :: r).all (fun c => isLet c || isFig c) = true) : nameB z = true := by
  have hl := cps_len z
  rw [e] at hl
  unfold nameB
  rw [e, decide_eq_true (show 1 ≤ (z.length : Int) by rw [← hl, List.length_cons]; omega), decide_eq_true (show (z.length : Int) ≤ 8 by omega), h2]
  show (true && (true && (isLet c && true))) = true
  rw [h1] <;> rfl
theorem name_of {b : Str} (hb : b ∈ BEG) {x y : Nat} (hx : isLet x = true) (hy : isLet y = true) : nameB ((b ++ ⟨#[x]⟩) ++ ⟨#[y]⟩) = true := by
  have e := toL b x y
  have tail : ∀ l : List Nat, l.all (fun c => isLet c || isFig c) = true → (l ++ [x] ++ [y]).all (fun c => isLet c || isFig c) = true := fun l hl => by
    rw [List.all_append, List.all_append, hl, List.all_cons, List.all_cons, hx, hy] <;> rfl
  simp only [BEG, List.mem_cons, List.not_mem_nil, or_false] at hb
  rcases hb with rfl | rfl | rfl | rfl | rfl | rfl | rfl
  · exact nameB_by (c := x) (r := [y]) e (by simp) hx (tail [] rfl)
  · exact nameB_by (c := x) (r := [y]) e (by simp) hx (tail [] rfl)
  · exact nameB_by (c := 97) (r := [x, y]) e (by simp) (by decide +kernel) (tail [97] (by decide +kernel))
  · exact nameB_by (c := 122) (r := [57, x, y]) e (by simp) (by decide +kernel) (tail [122, 57] (by decide +kernel))
  · exact nameB_by (c := 116) (r := [105, 116, 108, 101, x, y]) e (by simp) (by decide +kernel) (tail [116, 105, 116, 108, 101] (by decide +kernel))
  · exact nameB_by (c := 109) (r := [48, 109, 48, 109, 48, x, y]) e (by simp) (by decide +kernel) (tail [109, 48, 109, 48, 109, 48] (by decide +kernel))
  · exact nameB_by (c := 98) (r := [x, y]) e (by simp) (by decide +kernel) (tail [98] (by decide +kernel))
theorem one_of {x : Nat} (hx : isLet x = true) : nameB ⟨#[x]⟩ = true := nameB_by (c := x) (r := []) rfl (by simp) hx (by rw [List.all_cons, hx] <;> rfl)
/-- the steps from name to name -/
def STP : List Nat := [1, 3, 5, 7, 9, 11, 15, 17]
theorem step_ok : ∀ a ∈ STP, ∀ b : Fin 13, ∀ d : Fin 40, d.val = 0 ∨ (d.val * (a + 26 * b.val)) % 676 ≠ 0 := by decide +kernel
def nth (c s j : Nat) : Nat := (c + j * s) % 676
theorem nth_inj {a b c : Nat} (ha : a ∈ STP) (hb : b < 13) {i j : Nat} (hi : i < j) (hj : j < 40) : nth c (a + 26 * b) i ≠ nth c (a + 26 * b) j := by
  intro e
  unfold nth at e
  have h := step_ok a ha ⟨b, hb⟩ ⟨j - i, by omega⟩
  have hd : j * (a + 26 * b) = i * (a + 26 * b) + (j - i) * (a + 26 * b) := by
    rw [← Nat.add_mul]
    congr 1
    omega
  generalize (j - i) * (a + 26 * b) = D at hd h
  generalize i * (a + 26 * b) = A at hd e
  rw [hd] at e
  rcases h with h | h
  · have h : j - i = 0 := h
    omega
  · have h : D % 676 ≠ 0 := h
    omega
theorem nth_nodup {a b c : Nat} (ha : a ∈ STP) (hb : b < 13) : ∀ {n : Nat}, n ≤ 40 → ((List.range n).map (nth c (a + 26 * b))).Nodup
  | 0, _ => List.nodup_nil
  | n + 1, h => by
    rw [List.range_succ, List.map_append]
    refine List.nodup_append.mpr ⟨nth_nodup ha hb (by omega), by simp, ?_⟩
    intro x hx y hy
    obtain ⟨i, hi, rfl⟩ := List.mem_map.mp hx
    rw [List.map_cons, List.map_nil, List.mem_singleton] at hy
    rw [hy]
    exact nth_inj ha hb (List.mem_range.mp hi) (by omega)
theorem nodup_set {α : Type} : ∀ {l : List α} {j : Nat} {x : α}, l.Nodup → x ∉ l → (l.set j x).Nodup
  | [], _, _, _, _ => List.nodup_nil
  | a :: r, 0, x, h, n => List.nodup_cons.mpr ⟨fun m => n (List.mem_cons_of_mem _ m), (List.nodup_cons.mp h).2⟩
  | a :: r, j + 1, x, h, n => by
    obtain ⟨h1, h2⟩ := List.nodup_cons.mp h
    refine List.nodup_cons.mpr ⟨fun m => ?_, nodup_set h2 fun m => n (List.mem_cons_of_mem _ m)⟩
    rcases List.mem_or_eq_of_mem_set m with m | e
    · exact h1 m
    · exact n (by rw [← e]; exact List.mem_cons_self)
theorem nodup_of_map {α β : Type} {f : α → β} : ∀ {l : List α}, (l.map f).Nodup → l.Nodup
  | [], _ => List.nodup_nil
  | a :: r, h => by
    obtain ⟨h1, h2⟩ := List.nodup_cons.mp h
    exact List.nodup_cons.mpr ⟨fun m => h1 (List.mem_map_of_mem m), nodup_of_map h2⟩
theorem ixN_at {n j : Nat} (hj : j < n) : ixN n (j : Int) = some j := by
  unfold ixN
  rw [if_pos (by omega), if_pos (by omega)]
  simp
/-! ### right masters -/
structure OkMa (m : MaM) : Prop where
  name : nameB m.name = true
  own : ∀ p ∈ m.own, OkPl p ∧ nameB p.name = true
  once : (m.own.map (·.name)).Nodup
  few : m.own.length ≤ 8
theorem OkMa.noL {m : MaM} (h : OkMa m) : Gd.noL m.d = true := MaM.noL fun p hp s hs => wOk_flat ((h.own p hp).1.right s hs).2
/-- masters of names all unlike, what is over each stands among them, no ring: each name has a height -/
structure OkMs (ms : List MaM) : Prop where
  all : ∀ m ∈ ms, OkMa m
  once : (ms.map (·.name)).Nodup
  over : ∃ f : Str → Nat, (∀ z, f z ≤ 12) ∧ ∀ m ∈ ms, ∀ z, m.over = some z → (∃ o ∈ ms, o.name = z) ∧ f z < f m.name
  few : ms.length ≤ 12
theorem OkMs.noL {ms : List MaM} (h : OkMs ms) : Gd.noL (.tuple (ms.map MaM.d)) = true := by
  simp only [Gd.noL]
  refine noL_all fun d hd => ?_
  obtain ⟨m, hm, rfl⟩ := List.mem_map.mp hd
  exact (h.all m hm).noL
/-! ### an item put in -/
def ins {α : Type} (l : List α) (i : Nat) (x : α) : List α := l.take i ++ x :: l.drop i
theorem ins_map {α β : Type} {f : α → β} {l : List α} {i : Nat} {x : α} : (ins l i x).map f = ins (l.map f) i (f x) := by
  unfold ins
  rw [List.map_append, List.map_cons, List.map_take, List.map_drop]
theorem ins_mem {α : Type} {l : List α} {i : Nat} {x y : α} : y ∈ ins l i x ↔ y = x ∨ y ∈ l := by
  unfold ins
  rw [List.mem_append, List.mem_cons]
  constructor
  · rintro (h | h | h)
    · exact .inr (List.mem_of_mem_take h)
    · exact .inl h
    · exact .inr (List.mem_of_mem_drop h)
  · rintro (h | h)
    · exact .inr (.inl h)
    · have e := List.take_append_drop i l
      rw [← e] at h
      rcases List.mem_append.mp h with h | h
      · exact .inl h
      · exact .inr (.inr h)
theorem ins_len {α : Type} {l : List α} {i : Nat} {x : α} : (ins l i x).length = l.length + 1 := by
  have e := congrArg List.length (List.take_append_drop i l)
  rw [List.length_append] at e
  unfold ins
  rw [List.length_append, List.length_cons]
  omega
theorem ins_perm {α : Type} {l : List α} {i : Nat} {x : α} : (ins l i x).Perm (x :: l) := by
  unfold ins
  refine (List.perm_middle).trans ?_
  rw [List.take_append_drop]
theorem ins_nodup {α : Type} {l : List α} {i : Nat} {x : α} (h : l.Nodup) (n : x ∉ l) : (ins l i x).Nodup := ins_perm.nodup_iff.mpr (List.nodup_cons.mpr ⟨n, h⟩)
theorem ins_dp {K : PySem.W.Frag} {H : Hp} {xs : List V} {ds : List PyData} {v : V} {d : PyData} (i : Nat) (h : DpAll K H xs ds) (hv : Dp K H v d) : DpAll K H (ins xs i v) (ins ds i d) := by
  unfold ins
  exact dpAll_app (dpAll_take i h) (.cons hv (dpAll_drop i h))
/-! ### where a name stands -/
def pos (z : Str) : List Str → Nat
  | [] => 0
  | y :: r => if y = z then 0 else pos z r + 1
theorem pos_get : ∀ {l : List Str} {j : Nat} {z : Str}, l.Nodup → l[j]? = some z → pos z l = j
  | [], _, _, _, e => by cases e
  | y :: r, 0, z, _, e => by
    cases e
    exact if_pos rfl
  | y :: r, j + 1, z, h, e => by
    obtain ⟨h1, h2⟩ := List.nodup_cons.mp h
    have e : r[j]? = some z := e
    have n : y ≠ z := fun q => h1 (by rw [q]; exact List.mem_of_getElem? e)
    show (if y = z then 0 else pos z r + 1) = j + 1
    rw [if_neg n, pos_get h2 e]
theorem pos_le (z : Str) : ∀ l : List Str, pos z l ≤ l.length
  | [] => Nat.le_refl _
  | y :: r => by
    show (if y = z then 0 else pos z r + 1) ≤ r.length + 1
    have := pos_le z r
    split <;> omega
theorem not_take {α : Type} : ∀ {l : List α} {j : Nat} {z : α}, l.Nodup → l[j]? = some z → z ∉ l.take j
  | [], _, _, _, e => by cases e
  | y :: r, 0, z, _, _ => fun m => nomatch m
  | y :: r, j + 1, z, h, e => fun m => by
    obtain ⟨h1, h2⟩ := List.nodup_cons.mp h
    have e : r[j]? = some z := e
    rcases List.mem_cons.mp (show z ∈ y :: r.take j from m) with q | q
    · exact h1 (by rw [← q]; exact List.mem_of_getElem? e)
    · exact not_take h2 e q
theorem ins_eq {α : Type} {l : List α} {i : Nat} {x : α} : l.take i ++ [x] ++ l.drop i = ins l i x := by
  unfold ins
  rw [List.append_assoc] <;> rfl
end Gn

set_option Elab.async false
set_option linter.all false
set_option maxRecDepth 100000
set_option maxHeartbeats 2000000
/-! Masters: chains, places; tables that grow. -/
namespace Gm
open PySem PySem.Spec PyProof.Rows L2 GxR Gx Gd Gn
/-- two ways that meet again -/
theorem seq_via {a b : TS} {D : Ends} {σ : L2.St} {H : Hp} (Mid : L2.St → Hp → Prop) (h1 : ∀ nx' : L2.St → Hp → Prop, (∀ σ' H', Mid σ' H' → nx' σ' H') → a { D with nx := nx' } σ H) (h2 : ∀ σ' H', Mid σ' H' → b D σ' H') : tSeq a b D σ H := h1 (b D) h2
def setD (s : Str × PyData) : PyData := .tuple [.str s.1, s.2]
def ovD : Option Str → V
  | none => .non
  | some z => .str z
def textD : Option (List Str) → PyData
  | none => .none
  | some l => .tuple (l.map .str)
theorem own_noL {own : List PlM} (h : ∀ q ∈ own, OkPl q ∧ nameB q.name = true) : noLAll (own.map PlM.d) = true := noL_all fun d hd => by
  obtain ⟨m, hm, rfl⟩ := List.mem_map.mp hd
  exact (h m hm).1.noL
theorem mas_noL {ms : List MaM} (h : ∀ q ∈ ms, OkMa q) : noLAll (ms.map MaM.d) = true := noL_all fun d hd => by
  obtain ⟨m, hm, rfl⟩ := List.mem_map.mp hd
  exact (h m hm).noL
/-- each over stands ahead of its master in zs -/
def Ahead (zs : List Str) (i : Nat) (ms : List MaM) : Prop := ∀ m ∈ ms, ∀ z, m.over = some z → ∃ j k, zs[j]? = some z ∧ zs[k]? = some m.name ∧ j < k ∧ k < i
theorem made_ok {zs : List Str} {ms : List MaM} (nd : zs.Nodup) (l : zs.length ≤ 12) (ok4 : ∀ m ∈ ms, OkMa m) (pm4 : (ms.map (·.name)).Perm zs) (ah4 : Ahead zs zs.length ms) : OkMs ms := by
  refine ⟨ok4, pm4.nodup_iff.mpr nd, ⟨fun z => pos z zs, fun z => Nat.le_trans (pos_le z zs) l, fun m mm z ez => ?_⟩, ?_⟩
  · obtain ⟨j, k, ej, ek, jk, _⟩ := ah4 m mm z ez
    refine ⟨?_, ?_⟩
    · have h1 : z ∈ ms.map (·.name) := pm4.mem_iff.mpr (List.mem_of_getElem? ej)
      obtain ⟨o, ho, e⟩ := List.mem_map.mp h1
      exact ⟨o, ho, e⟩
    · show pos z zs < pos m.name zs
      rw [pos_get nd ej, pos_get nd ek]
      exact jk
  · have h1 := pm4.length_eq
    rw [List.length_map] at h1
    omega
section
variable {K : PySem.W.Frag} {H : Hp}
theorem ma_at {v : V} {m : MaM} (h : Dp K H v m.d) : ∃ a g ps, v = .ref a ∧ SqT K H a [.str m.name, ovD m.over, .ref g] ∧ SqT K H g ps ∧ DpAll K H ps (m.own.map PlM.d) := by
  unfold MaM.d at h
  obtain ⟨a, xs, rfl, st, hx⟩ := dp_tup h
  cases hx with
  | cons h1 t1 =>
    cases t1 with
    | cons h2 t2 =>
      cases t2 with
      | cons h3 t3 =>
        cases t3
        obtain rfl := dp_str h1
        obtain ⟨g, ps, rfl, sg, hp⟩ := dp_tup h3
        refine ⟨a, g, ps, rfl, ?_, sg, hp⟩
        cases e : m.over with
        | none =>
          rw [e] at h2
          obtain rfl := dp_non h2
          exact st
        | some z =>
          rw [e] at h2
          obtain rfl := dp_str h2
          exact st
theorem pl_at {v : V} {p : PlM} (h : Dp K H v p.d) : ∃ a g ss u, v = .ref a ∧ SqT K H a [.str p.name, .ref g, u] ∧ SqT K H g ss ∧ DpAll K H ss (p.sets.map setD) ∧ Dp K H u (textD p.text) := by
  unfold PlM.d at h
  obtain ⟨a, xs, rfl, st, hx⟩ := dp_tup h
  cases hx with
  | cons h1 t1 =>
    cases t1 with
    | cons h2 t2 =>
      cases t2 with
      | cons h3 t3 =>
        cases t3
        obtain rfl := dp_str h1
        obtain ⟨g, ps, rfl, sg, hp⟩ := dp_tup h2
        refine ⟨a, g, ps, _, rfl, st, sg, hp, ?_⟩
        cases e : p.text with
        | none =>
          rw [e] at h3
          exact h3
        | some z =>
          rw [e] at h3
          exact h3
theorem set_at {v : V} {s : Str × PyData} (h : Dp K H v (setD s)) : ∃ a u, v = .ref a ∧ SqT K H a [.str s.1, u] ∧ Dp K H u s.2 := by
  unfold setD at h
  obtain ⟨a, xs, rfl, st, hx⟩ := dp_tup h
  cases hx with
  | cons h1 t1 =>
    cases t1 with
    | cons h2 t2 =>
      cases t2
      obtain rfl := dp_str h1
      exact ⟨a, _, rfl, st, h2⟩
end
/-- what stands at a place of a list of records -/
theorem at_rec {K : PySem.W.Frag} {H : Hp} {α : Type} {f : α → PyData} {xs : List V} {l : List α} {i : Nat} {x : V} (h : DpAll K H xs (l.map f)) (e : xs[i]? = some x) : ∃ r, l[i]? = some r ∧ Dp K H x (f r) := by
  obtain ⟨d, ed, hd⟩ := dpAll_of h e
  rw [List.getElem?_map] at ed
  cases q : l[i]? with
  | none =>
    rw [q] at ed
    cases ed
  | some r =>
    rw [q] at ed
    exact ⟨r, rfl, by cases ed; exact hd⟩
theorem str_at {zs : List Str} {i : Nat} {x : V} (e : (zs.map V.str)[i]? = some x) : ∃ z, zs[i]? = some z ∧ x = .str z := by
  rw [List.getElem?_map] at e
  cases q : zs[i]? with
  | none =>
    rw [q] at e
    cases e
  | some z =>
    rw [q] at e
    exact ⟨z, rfl, (Option.some.inj e).symm⟩
/-! ### the chain of a master -/
def fnd (ms : List MaM) (z : Str) : Option MaM := ms.find? fun m => decide (m.name = z)
theorem fnd_some {ms : List MaM} {z : Str} {m : MaM} (h : fnd ms z = some m) : m ∈ ms ∧ m.name = z := ⟨List.mem_of_find?_eq_some h, of_decide_eq_true (List.find?_some (p := fun m : MaM => decide (m.name = z)) h)⟩
theorem fnd_of {ms : List MaM} {z : Str} (h : ∃ m ∈ ms, m.name = z) : ∃ m, fnd ms z = some m := by
  cases e : fnd ms z with
  | some m => exact ⟨m, rfl⟩
  | none =>
    obtain ⟨m, hm, q⟩ := h
    exact absurd (decide_eq_true q) (List.find?_eq_none.mp e m hm)
theorem fnd_self : ∀ {ms : List MaM} {m : MaM}, (ms.map (·.name)).Nodup → m ∈ ms → fnd ms m.name = some m
  | [], _, _, h => nomatch h
  | a :: r, m, nd, h => by
    have nd' := List.nodup_cons.mp nd
    unfold fnd
    rw [List.find?_cons]
    rcases List.mem_cons.mp h with rfl | h
    · rw [decide_eq_true rfl]
    · have n : a.name ≠ m.name := fun e => nd'.1 (List.mem_map.mpr ⟨m, h, e.symm⟩)
      rw [decide_eq_false n]
      exact fnd_self nd'.2 h
def chnN (ms : List MaM) : Nat → Str → List MaM
  | 0, _ => []
  | n + 1, z => match fnd ms z with
    | none => []
    | some m => m :: (match m.over with
      | none => []
      | some y => chnN ms n y)
def chn (ms : List MaM) (z : Str) : List MaM := chnN ms 20 z
theorem chnN_len (ms : List MaM) : ∀ n z, (chnN ms n z).length ≤ n
  | 0, _ => Nat.le_refl _
  | n + 1, z => by
    unfold chnN
    cases fnd ms z with
    | none => exact Nat.zero_le _
    | some m =>
      cases e : m.over with
      | none => simp [e]
      | some y =>
        simp only [e, List.length_cons]
        exact Nat.succ_le_succ (chnN_len ms n y)
theorem chn_len (ms : List MaM) (z : Str) : (chn ms z).length ≤ 20 := chnN_len ms 20 z
theorem chnN_mem (ms : List MaM) : ∀ n z m, m ∈ chnN ms n z → m ∈ ms
  | 0, _, _, h => nomatch h
  | n + 1, z, m, h => by
    unfold chnN at h
    cases e : fnd ms z with
    | none =>
      rw [e] at h
      cases h
    | some o =>
      simp only [e] at h
      rcases List.mem_cons.mp h with rfl | h
      · exact (fnd_some e).1
      · cases eo : o.over with
        | none =>
          simp only [eo] at h
          cases h
        | some y =>
          simp only [eo] at h
          exact chnN_mem ms n y m h
theorem chn_mem {ms : List MaM} {z : Str} {m : MaM} (h : m ∈ chn ms z) : m ∈ ms := chnN_mem ms 20 z m h
theorem chnN_more {ms : List MaM} {f : Str → Nat} (hf : ∀ m ∈ ms, ∀ z, m.over = some z → (∃ o ∈ ms, o.name = z) ∧ f z < f m.name) : ∀ n k z, f z < n → n ≤ k → chnN ms n z = chnN ms k z
  | 0, _, _, h, _ => absurd h (Nat.not_lt_zero _)
  | n + 1, 0, _, _, h => absurd h (Nat.not_succ_le_zero _)
  | n + 1, k + 1, z, h, l => by
    unfold chnN
    cases e : fnd ms z with
    | none => rfl
    | some o =>
      cases eo : o.over with
      | none => simp only [eo]
      | some y =>
        obtain ⟨mo, no⟩ := fnd_some e
        have h2 := (hf o mo y eo).2
        rw [no] at h2
        simp only [eo]
        rw [chnN_more hf n k y (by omega) (by omega)]
theorem chn_step {ms : List MaM} (ok : OkMs ms) {z : Str} {m : MaM} (h : fnd ms z = some m) : chn ms z = m :: (match m.over with
    | none => []
    | some y => chn ms y) := by
  obtain ⟨f, fl, hf⟩ := ok.over
  show chnN ms (19 + 1) z = _
  unfold chnN
  rw [h]
  cases e : m.over with
  | none => simp only [e]
  | some y =>
    simp only [e]
    rw [show chn ms y = chnN ms 20 y from rfl, chnN_more hf 19 20 y (by have := fl y; omega) (by decide)]
/-- the height of a name, for loops along a chain -/
def chnL (ms : List MaM) (z : Str) : Nat := (chn ms z).length
/-! ### places -/
def addN (acc : List Str) (z : Str) : List Str := if z ∈ acc then acc else acc ++ [z]
def plN (l : List MaM) : List Str := l.flatMap fun m => m.own.map (·.name)
def there (ms : List MaM) (z : Str) : List Str := (plN (chn ms z).reverse).foldl addN []
theorem addN_len {acc : List Str} {z : Str} : (addN acc z).length ≤ acc.length + 1 := by
  unfold addN
  split
  · omega
  · rw [List.length_append]
    exact Nat.le_refl _
theorem fold_len : ∀ {l acc : List Str}, (l.foldl addN acc).length ≤ acc.length + l.length
  | [], acc => Nat.le_refl _
  | z :: r, acc => by
    have h := fold_len (l := r) (acc := addN acc z)
    have h2 := addN_len (acc := acc) (z := z)
    rw [List.foldl_cons, List.length_cons]
    omega
theorem plN_app (l : List MaM) (m : MaM) : plN (l ++ [m]) = plN l ++ m.own.map (·.name) := by
  unfold plN
  rw [List.flatMap_append]
  simp
theorem plN_len : ∀ {l : List MaM}, (∀ m ∈ l, m.own.length ≤ 8) → (plN l).length ≤ 8 * l.length
  | [], _ => Nat.zero_le _
  | m :: r, h => by
    have ih := plN_len (l := r) fun x hx => h x (List.mem_cons_of_mem _ hx)
    have h1 := h m List.mem_cons_self
    show (m.own.map (·.name) ++ plN r).length ≤ _
    rw [List.length_append, List.length_map, List.length_cons]
    omega
theorem inV_strs (z : Str) (l : List Str) : inV (.str z) (l.map V.str) = decide (z ∈ l) := by
  rw [Bool.eq_iff_iff, decide_eq_true_eq]
  show (((l.map V.str).any fun y => eqV y (.str z)) = true) ↔ _
  rw [List.any_eq_true]
  constructor
  · rintro ⟨x, hx, e⟩
    obtain ⟨y, hy, rfl⟩ := List.mem_map.mp hx
    rw [← (beq_iff_eq.mp (show (y == z) = true from e))]
    exact hy
  · intro h
    exact ⟨.str z, List.mem_map_of_mem h, beq_iff_eq.mpr rfl⟩
theorem flat_strs (l : List Str) : (l.map V.str).all flatV = true := by
  rw [List.all_map]
  exact List.all_eq_true.mpr fun _ _ => rfl
/-! ### tables that grow, all else kept -/
def Tk (P' : Addr) (H H' : Hp) : Prop := TabG H' P' ∧ ∀ b o, H b = some o → b ≠ P' → H' b = some o
section
variable {K : PySem.W.Frag} {P' : Addr} {H H' H2 : Hp}
theorem Tk.same (g : TabG H P') (s : Same H H') : Tk P' H H' := ⟨tabSame g s, fun b o e _ => s b o e⟩
theorem Tk.refl (g : TabG H P') : Tk P' H H := Tk.same g (Same.refl H)
theorem Tk.tabbed (h : Tabbed P' H H') : Tk P' H H' := ⟨h.1, tabbedKt h⟩
theorem Tk.trans (a : Tk P' H H') (b : Tk P' H' H2) : Tk P' H H2 := ⟨b.1, fun c o e n => b.2 c o (a.2 c o e n) n⟩
theorem tab_ne {o : HO} {b : Addr} (g : TabG H P') (e : H b = some o) (n : ∀ ps, o ≠ .tbl ps) : b ≠ P' := by
  obtain ⟨ps, q, _⟩ := g
  intro z
  rw [z, q] at e
  exact n ps (Option.some.inj e).symm
theorem Tk.lst {D : Addr} {xs : List V} (g : TabG H P') (k : Tk P' H H') (e : H D = some (.lst xs)) : H' D = some (.lst xs) := k.2 _ _ e (tab_ne g e fun _ q => nomatch q)
theorem KT.tk (g : TabG H P') (k : Tk P' H H') : KT K H H' := fun _ _ h => sqT_by h (fun _ e => k.2 _ _ e (tab_ne g e fun _ q => nomatch q)) fun _ _ e => k.2 _ _ e (tab_ne g e fun _ q => nomatch q)
theorem Tk.ne {b D : Addr} {o : HO} (g : TabG H P') (k : Tk P' H H') (e : H b = some o) (n : H' D = none) : b ≠ D := by
  intro z
  by_cases hb : b = P'
  · obtain ⟨ps, q, _⟩ := k.1
    rw [← z, hb, q] at n
    cases n
  · rw [← z, k.2 b o e hb] at n
    cases n
theorem Tk.free {D : Addr} (g : TabG H P') (k : Tk P' H H') (n : H' D = none) : H D = none := by
  cases e : H D with
  | none => rfl
  | some o => exact absurd rfl (k.ne g e n)
/-- a new list may change -/
theorem Tk.put {D : Addr} {o : HO} (g : TabG H P') (h : H D = none) (k : Tk P' H H') (hD : TabG (upd H' D o) P') : Tk P' H (upd H' D o) := ⟨hD, fun b u e n => by
  rw [upd_ne (ne_of_none e h)]
  exact k.2 b u e n⟩
theorem tab_put {D : Addr} {xs : List V} {o : HO} (g : TabG H P') (e : H D = some (.lst xs)) : TabG (upd H D o) P' := by
  have n := tab_ne g e fun _ q => nomatch q
  obtain ⟨ps, q, t⟩ := g
  exact ⟨ps, (upd_ne n.symm).trans q, t⟩
theorem Pen.tk {p L : Addr} {ns : List Int} {n : Nat} (h : Pen H p L ns n) (g : TabG H P') (k : Tk P' H H') : Pen H' p L ns n := h.kt g k.2
end
/-! ### lists of records read along -/
/-- promises of what is told of masters and a name -/
def spMsL (K : PySem.W.Frag) (R : List MaM → Str → Hp → Addr → Prop) : Sp := fun vs H Q _ => ∃ (v : V) (z : Str) (ms : List MaM), vs = [v, .str z] ∧ Dp K H v (.tuple (ms.map MaM.d)) ∧ OkMs ms ∧ (∃ m ∈ ms, m.name = z) ∧
  ∀ (D : Addr) (H' : Hp), Same H H' → H D = none → R ms z H' D → Q (.ref D) H'
def spMsT (K : PySem.W.Frag) (P' : Addr) (R : List MaM → Str → Hp → Addr → Prop) : Sp := fun vs H Q _ => ∃ (v : V) (z : Str) (ms : List MaM), vs = [v, .str z] ∧ Dp K H v (.tuple (ms.map MaM.d)) ∧ OkMs ms ∧ (∃ m ∈ ms, m.name = z) ∧ TabG H P' ∧
  ∀ (D : Addr) (H' : Hp), Tk P' H H' → H D = none → R ms z H' D → Q (.ref D) H'
def RChn (K : PySem.W.Frag) : List MaM → Str → Hp → Addr → Prop := fun ms z H' D => ∃ xs, H' D = some (.lst xs) ∧ DpAll K H' xs ((chn ms z).map MaM.d)
def RNms : List MaM → Str → Hp → Addr → Prop := fun ms z H' D => H' D = some (.lst (((chn ms z).map (·.name)).map V.str))
def RThere : List MaM → Str → Hp → Addr → Prop := fun ms z H' D => H' D = some (.lst ((there ms z).map V.str))
/-! ### data all the same -/
mutual
def slim : PyData → Bool
  | .tuple ds => decide (ds.length ≤ 1000) && slimAll ds
  | .list ds => decide (ds.length ≤ 1000) && slimAll ds
  | _ => true
def slimAll : List PyData → Bool
  | [] => true
  | d :: r => slim d && slimAll r
end
mutual
def dep : PyData → Nat
  | .tuple ds => depAll ds + 1
  | .list ds => depAll ds + 1
  | _ => 0
def depAll : List PyData → Nat
  | [] => 0
  | d :: r => max (dep d) (depAll r)
end
theorem slim_at : ∀ {ds : List PyData} {d : PyData}, slimAll ds = true → d ∈ ds → slim d = true
  | [], _, _, h => nomatch h
  | a :: r, d, s, h => by
    simp only [slimAll, Bool.and_eq_true] at s
    rcases List.mem_cons.mp h with rfl | h
    · exact s.1
    · exact slim_at s.2 h
theorem slim_all : ∀ {ds : List PyData}, (∀ d ∈ ds, slim d = true) → slimAll ds = true
  | [], _ => by simp only [slimAll]
  | d :: r, h => by simp only [slimAll, h d List.mem_cons_self, slim_all fun x hx => h x (List.mem_cons_of_mem _ hx), Bool.and_self]
theorem dep_at : ∀ {ds : List PyData} {d : PyData}, d ∈ ds → dep d ≤ depAll ds
  | [], _, h => nomatch h
  | a :: r, d, h => by
    simp only [depAll]
    rcases List.mem_cons.mp h with rfl | h
    · omega
    · have := dep_at h
      omega
theorem dep_all : ∀ {ds : List PyData} {n : Nat}, (∀ d ∈ ds, dep d ≤ n) → depAll ds ≤ n
  | [], _, _ => by simp only [depAll]; omega
  | d :: r, n, h => by
    have h1 := h d List.mem_cons_self
    have h2 := dep_all fun x hx => h x (List.mem_cons_of_mem _ hx)
    simp only [depAll]
    omega
def tyN : PyData → String
  | .none => "NoneType"
  | .bool _ => "bool"
  | .int _ => "int"
  | .str _ => "str"
  | .list _ => "list"
  | .tuple _ => "tuple"
  | _ => "dict"
theorem sqL_ty {K : PySem.W.Frag} {H : Hp} {a : Addr} {xs : List V} (e : SqL K H a xs) : TyX K H (.ref a) (.type "list") := by
  rcases e with (e | ⟨o, e⟩) | ⟨o, its, n, e, c, _⟩
  · exact .base (.lst e)
  · exact .base (.frz e)
  · exact .kList e c
theorem sqT_ty {K : PySem.W.Frag} {H : Hp} {a : Addr} {xs : List V} (e : SqT K H a xs) : TyX K H (.ref a) (.type "tuple") := by
  rcases e with (e | ⟨o, e⟩) | ⟨o, its, n, e, c, _⟩
  · exact .base (.tup e)
  · exact .fTuple e
  · exact .kTuple e c
theorem dp_ty {K : PySem.W.Frag} {H : Hp} {v : V} {d : PyData} (h : Dp K H v d) : TyX K H v (.type (tyN d)) := by
  cases h with
  | non => exact .base .non
  | bl b => exact .base (.bl b)
  | int i => exact .base (.int i)
  | str x => exact .base (.str x)
  | lst s _ => exact sqL_ty s
  | tup s _ => exact sqT_ty s
/-- zip of two tuples, as a walk -/
theorem walk_zipT {K : PySem.W.Frag} {a b : Addr} {xs ys : List V} {n : Nat} (hn : n = min xs.length ys.length) : Walk (RZ.ItzT K a b) n (fun H => SqT K H a xs ∧ SqT K H b ys) (YPair (fun i => xs[i]?) (fun i => ys[i]?)) := by
  subst hn
  refine ⟨fun i _ hi q => ?_, fun _ q => ⟨xs, ys, q.1, q.2, by omega⟩, fun i H v H' _ q y => ?_⟩
  · have h1 : i < xs.length := by omega
    have h2 : i < ys.length := by omega
    exact ⟨xs, ys, xs[i], ys[i], q.1, q.2, by simp [h1], by simp [h2]⟩
  · obtain ⟨T, x, z, h1, h2, h3, h4, h5⟩ := y
    exact ⟨T, x, z, h1, h2, h3, h4 xs q.1, h5 ys q.2⟩
/-! ### data stays -/
theorem dp_lst {K : PySem.W.Frag} {H : Hp} {v : V} {ds : List PyData} (h : Dp K H v (.list ds)) : ∃ a xs, v = .ref a ∧ SqL K H a xs ∧ DpAll K H xs ds := by
  cases h with
  | lst s h => exact ⟨_, _, rfl, s, h⟩
theorem dp_bl {K : PySem.W.Frag} {H : Hp} {v : V} {b : Bool} (h : Dp K H v (.bool b)) : v = .bl b := by
  cases h
  rfl
mutual
theorem dp_same {K : PySem.W.Frag} {H H' : Hp} (s : Same H H') : ∀ {v : V} {d : PyData}, Dp K H v d → Dp K H' v d
  | _, _, .non => .non
  | _, _, .bl b => .bl b
  | _, _, .int i => .int i
  | _, _, .str x => .str x
  | _, _, .lst q h => .lst (s.seq q) (dpAll_same s h)
  | _, _, .tup q h => .tup (sqT_same s q) (dpAll_same s h)
theorem dpAll_same {K : PySem.W.Frag} {H H' : Hp} (s : Same H H') : ∀ {vs : List V} {ds : List PyData}, DpAll K H vs ds → DpAll K H' vs ds
  | _, _, .nil => .nil
  | _, _, .cons h t => .cons (dp_same s h) (dpAll_same s t)
end
def isSeq : PyData → Bool
  | .tuple _ => true
  | .list _ => true
  | _ => false
theorem any2 {K : PySem.W.Frag} {v : V} {H : Hp} {d : PyData} (h : Dp K H v d) : PySem.W.kitAny K (.type (tyN d)) [.type "tuple", .type "list"] = some (isSeq d) := by
  cases h with
  | non => exact kitAny_cons (kit_ty (a := "NoneType") (r := false) (by decide +kernel)) (fun _ => kitAny_cons (kit_ty (a := "NoneType") (r := false) (by decide +kernel)) (fun _ => kitAny_nil) (fun z => nomatch z)) (fun z => nomatch z)
  | bl b => exact kitAny_cons (kit_ty (a := "bool") (r := false) (by decide +kernel)) (fun _ => kitAny_cons (kit_ty (a := "bool") (r := false) (by decide +kernel)) (fun _ => kitAny_nil) (fun z => nomatch z)) (fun z => nomatch z)
  | int i => exact kitAny_cons (kit_ty (a := "int") (r := false) (by decide +kernel)) (fun _ => kitAny_cons (kit_ty (a := "int") (r := false) (by decide +kernel)) (fun _ => kitAny_nil) (fun z => nomatch z)) (fun z => nomatch z)
  | str x => exact kitAny_cons (kit_ty (a := "str") (r := false) (by decide +kernel)) (fun _ => kitAny_cons (kit_ty (a := "str") (r := false) (by decide +kernel)) (fun _ => kitAny_nil) (fun z => nomatch z)) (fun z => nomatch z)
  | lst _ _ => exact kitAny_cons (kit_ty (a := "list") (r := false) (by decide +kernel)) (fun _ => kitAny_cons (kit_ty (a := "list") (r := true) (by decide +kernel)) (fun z => nomatch z) (fun _ => rfl)) (fun z => nomatch z)
  | tup _ _ => exact kitAny_cons (kit_ty (a := "tuple") (r := true) (by decide +kernel)) (fun z => nomatch z) (fun _ => rfl)
theorem one_ty {K : PySem.W.Frag} {v : V} {H : Hp} {d : PyData} (h : Dp K H v d) {c : String} {r : Bool} (e : L2.kitB (tyN d) c = some r) : ∃ t, TyX K H v t ∧ PySem.W.kitOne K t (.type c) = some r := ⟨_, dp_ty h, kit_ty e⟩
theorem pair2 : Paired ClsV [V.ty "tuple", V.ty "list"] [Value.type "tuple", Value.type "list"] := .cons (.ty _) (.cons (.ty _) .nil)
theorem ones_all {n : Nat} : (List.replicate n true).all id = true := List.all_eq_true.mpr fun b hb => by rw [(List.mem_replicate.mp hb).2] <;> rfl
theorem noLAll_app : ∀ {ds es : List PyData}, noLAll (ds ++ es) = (noLAll ds && noLAll es)
  | [], es => by simp only [List.nil_append, noLAll, Bool.true_and]
  | d :: r, es => by simp only [List.cons_append, noLAll, noLAll_app, Bool.and_assoc]
theorem dpAll_rev {K : PySem.W.Frag} {H : Hp} : ∀ {xs : List V} {ds : List PyData}, DpAll K H xs ds → DpAll K H xs.reverse ds.reverse
  | _, _, .nil => .nil
  | _, _, .cons h t => by
    rw [List.reverse_cons, List.reverse_cons]
    exact dpAll_app (dpAll_rev t) (.cons h .nil)
end Gm

set_option Elab.async false
set_option linter.all false
set_option maxRecDepth 100000
set_option maxHeartbeats 2000000
/-! Errors that are caught and kept behind the suite: isinstance of them. -/
namespace Gc
open PySem PySem.Spec PyProof.Rows L2 GxR Gx
/-- a caught error, kept as a value -/
def ExK (cls : Value) (d : Option Addr) (a : Addr) : HO := .ext fun h => ∃ (oe : Obj) (vs : Array Value), h.get? a = some oe ∧ Zc cls d oe ∧ oe.data = .fields vs
section
variable {X : Cx} {pins : List (Addr × Obj)} {σ : L2.St} {H : Hp} {s : Shared}
/-- an object that the def's entry didn't know may be tracked from now on -/
theorem track {a : Addr} {oe : Obj} {vs : Array Value} {cls : Value} {d : Option Addr} (I : Inv X pins σ H s) (ho : s.heap.get? a = some oe) (hz : Zc cls d oe) (hd : oe.data = .fields vs) (hn : H a = none) (h0 : X.s_0.heap.get? a = none)
    (nL : a ≠ X.env.locals) (nP : ∀ p ∈ X.pn ++ pins, p.1 ≠ a) : Inv X pins σ (upd H a (ExK cls d a)) s := by
  have other : ∀ {b : Addr} {u : HO}, H b = some u → upd H a (ExK cls d a) b = some u := fun {b u} e => by rw [upd_ne (ne_of_none e hn)]; exact e
  have away : ∀ {b : Addr}, b ≠ a → H b = none → upd H a (ExK cls d a) b = none := fun {b} n e => by rw [upd_ne n]; exact e
  refine ⟨I.ok, I.os, I.bare, ⟨I.base.keep, I.base.slot, fun b o e n hx => ?_, I.base.there, fun b xs e => other (I.base.tups b xs e), fun b o u e => other (I.base.frzs b o u e), fun b ps e => ?_⟩, I.loc, I.cell, away nL.symm I.free, fun x c e => ?_, fun p hp => ?_, fun b u e => ?_, I.len⟩
  · refine away (fun z => ?_) (I.base.free b o e n hx)
    rw [z, h0] at e
    cases e
  · obtain ⟨m, q⟩ := I.base.tbls b ps e
    exact ⟨m, other q⟩
  · refine away (fun z => ?_) (I.freeC x c e)
    obtain ⟨v, o, q, dc⟩ := I.cell x c e
    rw [z, ho] at q
    cases q
    rw [hd] at dc
    cases dc
  · obtain ⟨e, n, r⟩ := I.pin p hp
    exact ⟨e, away (nP p hp) n, r⟩
  · by_cases hb : b = a
    · rw [hb, upd_same] at e
      cases e
      rw [hb]
      exact ⟨⟨oe, vs, ho, hz, hd⟩, ⟨oe, ho⟩, fun h1 h2 ⟨o, v, q, r⟩ k => ⟨o, v, k o q, r⟩⟩
    · rw [upd_ne hb] at e
      exact (I.hok b u e).stay (fun c v _ q => q) (fun c q => other q) fun c xs q => other q
/-- what 'except x as n' wishes, the error kept -/
def wHold (K : PySem.W.Frag) (c : Value) (i : Nat) (ts : Addr → Value → Option Addr → TS) (Wout : WX) (D : Ends) : WX := fun cls d σ H =>
  ∃ b, PySem.W.exmOne K cls c = some b ∧ (b = true → ∀ a, H a = none → ts a cls d { nx := fun σ' H' => D.nx (σ'.set i none) (upd H' a (ExK cls d a)), rt := D.rt, bk := fun σ' H' => D.bk (σ'.set i none) (upd H' a (ExK cls d a)), ct := fun σ' H' => D.ct (σ'.set i none) (upd H' a (ExK cls d a)) } (σ.set i (some (.ref a))) H) ∧
    (b = false → Wout cls d σ H)
end
section
variable {X : Cx} {x n : Str} {c : Value} {i : Nat} {body suite : List Stmt} {b₀ : Stmt} {np pos pos' : Pos} {tb : WX → TS} {ts : Addr → Value → Option Addr → TS} {Wout : WX}
theorem ps_try_hold (hex : X.ex = []) (hs : X.stack = X.env :: X.outer) (hf : X.env.frame = some X.env.locals) (hN : X.N.Nodup) (hi : X.N[i]? = some n) (hln : X.env.kindOf n = some .local) (hc : Names X x c) (tk : Takes X Wout)
    (hb : ∀ (W : WX) (pn : List (Addr × Obj)) (xe : Value → Shared → Prop), Takes (X.tr pn xe) W → PassesOwn (model X.prog X.w) X.A X.env xe → PSs (X.tr pn xe) body (tb W))
    (hsu : ∀ (a : Addr) (oe : Obj) (cls : Value) (d : Option Addr) (pn : List (Addr × Obj)), Zc cls d oe → (∃ vs, oe.data = .fields vs) → PSs (X.suite a ((a, oe) :: pn)) (b₀ :: suite) (ts a cls d)) :
    PS X (.Try body [.ExceptHandler (some (.Name x np)) (some n) (b₀ :: suite) pos'] [] [] pos) (fun D σ H => tb (wHold X.K c i ts Wout D) D σ H) := by
  refine ⟨fun pins s σ H D I h => wpAny_Try_except (wpAny_mono ((hb (wHold X.K c i ts Wout D) (X.pn ++ pins) (fun e s₁ => wpAny (model X.prog X.w) X.A (noteFrame e X.env) (fun _ s₂ => wpAny (model X.prog X.w) X.A (setFlight e none) (fun _ s₃ =>
    wpAny (model X.prog X.w) X.A (handleBy e X.env [.ExceptHandler (some (.Name x np)) (some n) (b₀ :: suite) pos']) (SP X pins D) X.xe s₃) X.xe s₂) X.xe s₁) (fun u s' z => ?_) PassesOwn.looking).run [] s σ H D (I.toTry _) h) (fun f s1 q => ?_) fun _ _ z => z)⟩
  · have ok := I.ok
    have hfr : X.A.frames = some (X.env :: X.outer) := by rw [ok.frames, hs]
    obtain ⟨a, B, sI, pins', σ', H', cls, d, rfl, J', nb, up, sky, na, os, ag, b, hb1, hyes, hno⟩ := z
    have J : Inv X pins σ' H' sI := J'.ofTry ok
    rw [show (X.tr (X.pn ++ pins) _).stack = X.env :: X.outer from hs] at sky
    show wpAny (model X.prog X.w) X.A (noteFrame (.ref a) X.env) _ _ _
    refine Sky.land Zc.steady hfr hf sky fun h3 fl up3 => ?_
    have J3 : Inv X pins σ' H' { s' with heap := h3 } := J.landed nb fl.1 (up.trans up3) os ag
    obtain ⟨oe, vs, he, hz, hd⟩ := fl.there
    have nfr : a ∉ frs (X.env :: X.outer) := fun hm => by
      obtain ⟨_, o, e, hnf⟩ := fl.2.2.1.mem hm
      cases he.symm.trans e
      exact hnf _ hd
    have nL : a ≠ X.env.locals := fun z => nfr (List.mem_filterMap.mpr ⟨X.env, List.mem_cons_self, by rw [hf, z]⟩)
    have nF : a ∉ X.fs := fun hm => by
      obtain ⟨e, he, q⟩ := List.mem_filterMap.mp hm
      exact nfr (List.mem_filterMap.mpr ⟨e, List.mem_cons_of_mem _ he, q⟩)
    -- the error's object is new since the def's entry
    have nI : sI.heap.get? a = none := by
      cases q : sI.heap.get? a with
      | none => rfl
      | some o =>
        have z := nb a o q (by show a ∉ frs X.stack; rw [hs]; exact nfr)
        rw [fl.2.1] at z
        cases z
    have n0 : X.s_0.heap.get? a = none := by
      cases q : X.s_0.heap.get? a with
      | none => rfl
      | some o =>
        obtain ⟨o', z⟩ := J.base.there a o q (by rw [hex]; exact fun z => nomatch z)
        cases nI.symm.trans z
    have nP : ∀ p ∈ X.pn ++ pins, p.1 ≠ a := fun p hp z => by
      have e := (J.pin p hp).1
      rw [z, nI] at e
      cases e
    have S3 := J3.suite he hd na nL nF
    refine wpAny_handleBy_cons (codeAny_handlers_test ?_) (by intro q; cases q)
    have LT : PySem.W.Looks (model X.prog X.w) h3 (typeOf (.ref a)) cls := fun A Q E s k q => wpAny_typeOf_ref (k _ _ he) (by rw [hz.1]; exact q)
    have LM := PySem.W.exm_one (M := model X.prog X.w) J3.kIn LT hb1
    have test : ∀ {Q : Value → Shared → Prop} {E : Value → Shared → Prop}, Q c { s' with heap := h3 } → wpAny (model X.prog X.w) (X.A.mark (some (.ref a))) (eval (.Name x np) X.env) Q E { s' with heap := h3 } := fun {Q E} q => by
      obtain ⟨hg, hdbg, hm | ⟨hm, hv, hnn⟩⟩ := hc
      · exact ld_glob (X := X.suite a ((a, oe) :: (X.pn ++ pins))) S3 hg hm q hdbg
      · exact ld_blt (X := X.suite a ((a, oe) :: (X.pn ++ pins))) S3 hg hm hv q hnn hdbg
    refine test (LM.here ?_)
    cases b with
    | false =>
      -- it goes on
      refine wpAny_handleBy_nil ?_
      obtain ⟨_, _, _, o1, w1, T, _, _, e1, _, d1, t1, _⟩ := id fl
      unfold PySem.passOn
      refine wpAny_bind (wpAny_field e1 d1 t1 ?_)
      rw [if_neg (show ¬ ((Value.ref T == Value.none) = true) from by simp)]
      have fin : wpAny (model X.prog X.w) X.A (setFlight (.ref a) X.env.frame) (fun _ s4 => wpAny (model X.prog X.w) X.A (throw (.ref a) : Sem Flow) (SP X pins D) X.xe s4) X.xe { s' with heap := h3 } := by
        rw [hf]
        exact HandSPX.setFlight_upZ fl fun h4 hh up4 => wpAny_throw (tk _ _ ⟨a, B, sI, pins, σ', H', cls, d, rfl, J, nb, (up.trans up3).trans up4, .inr (.inr (by rw [hs]; exact hh)), na, os, ag, hno rfl⟩)
      first
        | exact wpAny_bind (wpAny_pure (wpAny_bind fin))
        | exact wpAny_bind fin
    | true =>
      -- it is held in the suite, and tracked behind it
      refine codeAny_handlers_suite_as (HandSPX.lands_againZ fl fun h4 fl4 up4 => ?_)
      have J4 : Inv X pins σ' H' { s' with heap := h4 } := J.landed nb fl4.1 ((up.trans up3).trans up4) os ag
      obtain ⟨o4, v4, e4, z4, d4⟩ := fl4.there
      refine store_ok (X := X.suite a ((a, o4) :: (X.pn ++ pins))) (v := .ref a) (J4.suite e4 d4 na nL nF) hN hi (.inl hln) rfl (fun s5 S5 => ?_) (.inr hln)
      refine wpAny_mono ((hsu a o4 cls d (X.pn ++ pins) z4 ⟨_, d4⟩).run [] s5 _ H' _ S5 (hyes rfl a na)) (fun f s6 hsp => ?_) (fun _ _ z => False.elim z)
      have done : ∀ {σ6 : L2.St} {H6 : Hp} {Q : Shared → Prop}, Inv (X.suite a ((a, o4) :: (X.pn ++ pins))) [] σ6 H6 s6 → (∀ s7, Inv X pins (σ6.set i none) H6 s7 → Inv X pins (σ6.set i none) (upd H6 a (ExK cls d a)) s7 → Q s7) →
          wpAny (model X.prog X.w) X.A (do bindName X.env n .none; unbindBehindTheSuite X.env n pos') (fun _ s7 => Q s7) X.xe s6 := fun {σ6 H6 Q} S6 hq =>
        gone_ok (X := X.suite a ((a, o4) :: (X.pn ++ pins))) S6 hN hi hln fun s7 S7 => by
          obtain ⟨e7, n7, _⟩ := S7.pin (a, o4) (List.mem_append_left _ List.mem_cons_self)
          have J7 : Inv X pins (σ6.set i none) H6 s7 := S7.unsuite ok
          exact hq s7 J7 (track J7 e7 z4 d4 n7 n0 nL nP)
      cases f with
      | next =>
        obtain ⟨σ6, H6, S6, q6⟩ := hsp
        exact done S6 fun s7 _ J7 => ⟨_, _, J7, q6⟩
      | brk =>
        obtain ⟨σ6, H6, S6, q6⟩ := hsp
        exact done S6 fun s7 _ J7 => ⟨_, _, J7, q6⟩
      | cont =>
        obtain ⟨σ6, H6, S6, q6⟩ := hsp
        exact done S6 fun s7 _ J7 => ⟨_, _, J7, q6⟩
      | ret u =>
        obtain ⟨v6, σ6, H6, S6, r6, q6⟩ := hsp
        exact done S6 fun s7 J7 _ => ⟨_, _, _, J7, r6, q6⟩
  · cases f with
    | next =>
      obtain ⟨σ', H', J', q⟩ := q
      exact wpAny_execs_nil ⟨σ', H', J'.ofTry I.ok, q⟩
    | brk =>
      obtain ⟨σ', H', J', q⟩ := q
      exact ⟨σ', H', J'.ofTry I.ok, q⟩
    | cont =>
      obtain ⟨σ', H', J', q⟩ := q
      exact ⟨σ', H', J'.ofTry I.ok, q⟩
    | ret u =>
      obtain ⟨v, σ', H', J', r, q⟩ := q
      exact ⟨v, σ', H', J'.ofTry I.ok, r, q⟩
end
/-- isinstance of a kept error -/
def rIsK (K : PySem.W.Frag) : List V → Hp → VK → Prop := fun xs H Q => ∃ (a D : Addr) (c : V) (cv : Value) (b : Bool), xs = [.ref a, c] ∧ H a = some (ExK (.ref D) none a) ∧ ExcC K D ∧ (∀ u, RelV c u → u = cv) ∧ PySem.W.kitOne K (.ref D) cv = some b ∧ Q (.bl b) H
theorem call_isK {X : Cx} : CallR X (.builtin "isinstance") (rIsK X.K) := by
  intro pins s σ H xs us Q I r h
  obtain ⟨a, D, c, cv, b, rfl, ha, C, hcv, e, q⟩ := h
  obtain ⟨u1, u2, rfl, r1, r2⟩ := vals2 r
  cases (show u1 = Value.ref a from r1)
  cases hcv _ r2
  obtain ⟨⟨oe, vs, ho, hz, hd⟩, _⟩ := I.hok a _ ha
  obtain ⟨oc, od, oda, osl⟩ := oe
  obtain ⟨h1, h2⟩ := hz
  dsimp only at h1 h2 hd
  subst h1 h2 hd
  exact PySem.W.kia_one (PySem.W.handS_kitx_exc C.hg C.hk C.hs C.hd C.ha C.hn C.ht C.hm) I.kIn ⟨ho, rfl, rfl, trivial⟩ e (fun z => nomatch z) fun tk => ⟨.bl b, H, I.kept (t' := tk) fun _ _ z => z, rfl, q⟩
/-! ### defs that raise, by their names -/
structure DnS (P : Program) (w : World) (K : PySem.W.Frag) (mg : Str → Option Value) (base : Heap) (k : Nat) (x : Str) (ps : List Str) (sp : Sp) : Prop where
  ex : ∃ (f : Addr) (fd : FuncData), mg x = some (.ref f) ∧ PySem.W.keepIn K (.ref f) = true ∧ Binds K fd ps [] ∧ FnOk P w K mg base (L2.CX P w) k f fd ps sp
section
variable {X : Cx} {k : Nat} {x : Str} {ps : List Str} {sp : Sp} {p pos : Pos} {e : Expr} {es : List Expr} {t : TA}
theorem pe_dnS {E : L2.St → XK} (D : DnS X.prog X.w X.K X.mg X.base k x ps sp) (hr : Room k X.A) (hg : Gl X x) (hx : ∀ σ, PassesAt (L2.CX X.prog X.w) X σ (E σ)) (ha : PA X (e :: es) t) (hdb : (x == ("__debug__" : Str)) = false := by decide)
    (he : starEach (e :: es) X.env = (false, eval e X.env) :: starEach es X.env := by rfl) (hpl : (backTo pos (starEach es X.env)).any (·.1) = false := by rfl) :
    PE X (.Call (.Name x p) (e :: es) [] pos) (tCallS sp E t) := by
  obtain ⟨f, fd, hm, hk, hb, F⟩ := D.ex
  exact pe_callS F hr hg hm hk hb hx ha hdb he hpl
end
section
variable {P : Program} {w : World} {K : PySem.W.Frag} {mg : Str → Option Value} {base : Heap} {x qual : Str} {params : Arguments} {body : List Stmt} {scope : Scope} {dvs : List V} {kws : List (Str × V)} {N ps : List Str} {k : Nat} {sp : Sp}
/-- a def that may raise -/
theorem okS {f : Addr} {fd : FuncData} (F : FunD K x qual params body scope dvs kws f fd) (S : FnScope N ps scope) (len : ∀ vs H Q E, sp vs H Q E → vs.length = ps.length)
    (hbody : ∀ (c : Value) (A : Around) (outer : List Env) (s : Shared) (H : Hp) (vs : List V) (Q : VK) (E : XK), Room k (A.deeper (envOfC qual scope s.heap.objs.size f c)) → sp vs H Q E →
      ∃ t, PSs (cxOf (L2.CX P w) P w K mg base N qual scope f c A outer s H E) body t ∧ t { nx := fun _ H' => Q .non H', rt := Q } (start N vs) H) : FnOk P w K mg base (L2.CX P w) (k + 1) f fd ps sp := by
  obtain ⟨oc, od, dV, kV, doc, pm, an, cdv, ct, osl, rfl, lk, hcd, _, _⟩ := F.ex
  exact fn_of lk hcd S len fun A outer s H vs Q E hr hsp => hbody _ A outer s H vs Q E hr hsp
end
/-! ### xs.count(y), flat items -/
theorem count_vals {y : V} : ∀ {ys : List V} {us : List Value}, Vals ys us → ys.all flatV = true → us.countP (eqU y) = ys.countP fun z => eqV z y
  | [], _, .nil, _ => rfl
  | z :: r, _, .cons h t, f => by
    rw [List.all_cons, Bool.and_eq_true] at f
    rw [List.countP_cons, List.countP_cons, count_vals t f.2, eqU_of h f.1]
def rCntV (K : PySem.W.Frag) : V → List V → Hp → VK → Prop := fun x xs H Q => ∃ (a : Addr) (ys : List V) (y : V), x = .ref a ∧ xs = [y] ∧ SqL K H a ys ∧ flatV y = true ∧ ys.all flatV = true ∧ Q (.int (ys.countP fun z => eqV z y : Nat)) H
theorem mt_lcountV {X : Cx} : MtR X "list.count" (rCntV X.K) := by
  intro pins s σ H x xs v us Q I rx rxs h
  obtain ⟨a, ys, y, rfl, rfl, hs, fy, fys, q⟩ := h
  cases (show v = Value.ref a from rx)
  obtain ⟨u, rfl, ru⟩ := rxs.one
  obtain ⟨its, rv, ⟨⟨cls, dd, data, sl⟩, n, ho, hc, hdn, hd⟩, hlen⟩ := I.list hs
  simp only at hc hd
  subst hc hd
  refine call_meets PySem.F.slot_list_count ⟨_, ho, rfl⟩ PySem.F.entry_list_count (PySem.F.args_list_count_2 _ _)
    (SeqAt.list_countAt a its.toArray n dd sl u (eqU y)) ⟨ho, fun u' hu' => mem_eqAt ru fy rv fys u' (by simpa using hu'), ?_⟩
  have ec : its.toArray.toList.countP (eqU y) = ys.countP fun z => eqV z y := by
    rw [List.toList_toArray]
    exact count_vals rv fys
  refine ⟨.int (ys.countP fun z => eqV z y : Nat), H, I.tok _, ⟨s.toks, ?_⟩, q⟩
  show Value.int ((its.toArray.toList.countP (eqU y) : Nat) : Int) s.toks = _
  rw [ec]
/-! ### facts of an error's class -/
/-- what the head tells of the class at C -/
def excB (K : PySem.W.Frag) (C : Addr) : Bool := PySem.W.excIn K C He.veBase "ValueError.__new__" && (PySem.W.keepIn K (.ref C) && (decide (PySem.W.subIn K (.ref C) (.type "BaseException") = some true) && (decide (PySem.W.typeIn K (.ref C) = some (.type "type")) &&
  (decide (PySem.W.findIn K (.ref C) "__getattribute__" = some (some (.builtin "BaseException.__getattribute__"))) && (decide (PySem.W.findIn K (.ref C) "__getattr__" = some none) && (PySem.W.hasDictIn K C && (decide (PySem.W.findIn K (.ref C) "__class__" = some (some (.builtin "object.__class__"))) &&
  (decide (PySem.W.specialIn K (.builtin "object.__class__") "__get__" = some (some (.builtin "getset_descriptor.__get__"))) && (decide (PySem.W.takesIn K (.builtin "object.__class__") = some true) && decide (PySem.W.mroIn K C (.type "object") = some true))))))))))
structure ExF (K : PySem.W.Frag) (C : Addr) : Prop where
  x : PySem.W.excIn K C He.veBase "ValueError.__new__" = true
  k : PySem.W.keepIn K (.ref C) = true
  b : PySem.W.subIn K (.ref C) (.type "BaseException") = some true
  t : PySem.W.typeIn K (.ref C) = some (.type "type")
  c : ExcC K C
theorem excB_ok {K : PySem.W.Frag} {C : Addr} (h : excB K C = true) : ExF K C := by
  unfold excB at h
  simp only [Bool.and_eq_true, decide_eq_true_eq] at h
  obtain ⟨h1, h2, h3, h4, h5, h6, h7, h8, h9, h10, h11⟩ := h
  exact ⟨h1, h2, h3, h4, ⟨h5, h6, h3, h7, h8, h9, h10, h11⟩⟩
/-- of an error of the class at C: which of the classes named it is -/
def kitB (K : PySem.W.Frag) (C : Addr) (one : Str) (xs : List Str) : Bool := xs.all fun x => decide (PySem.W.kitOne K (.ref C) (.ref (He.ga K x)) = some (decide (x = one)))
theorem kitB_ok {K : PySem.W.Frag} {C : Addr} {one : Str} {xs : List Str} (h : kitB K C one xs = true) {x : Str} (hx : x ∈ xs) : PySem.W.kitOne K (.ref C) (.ref (He.ga K x)) = some (decide (x = one)) := of_decide_eq_true (List.all_eq_true.mp h x hx)
/-! ### new objects, their heaps not spelt out -/
theorem lst_any {H : Hp} {xs : List V} {Q : VK} (hz : xs.length ≤ sizeLine) (q : ∀ p H', H' p = some (.lst xs) → Same H H' → H p = none → Q (.ref p) H') : xs.length ≤ sizeLine ∧ ∀ p, H p = none → Q (.ref p) (upd H p (.lst xs)) :=
  ⟨hz, fun p hp => q p _ upd_same (same_new hp) hp⟩
theorem tup_any {H : Hp} {xs : List V} {Q : VK} (hz : xs.length ≤ sizeLine) (q : ∀ p H', H' p = some (.tup xs) → Same H H' → H p = none → Q (.ref p) H') : xs.length ≤ sizeLine ∧ ∀ p, H p = none → Q (.ref p) (upd H p (.tup xs)) :=
  ⟨hz, fun p hp => q p _ upd_same (same_new hp) hp⟩
theorem catL_any {H : Hp} {l b : Addr} {xs ys : List V} {Q : VK} (hl : H l = some (.lst xs)) (hb : H b = some (.lst ys)) (hz : xs.length + ys.length ≤ sizeLine) (q : ∀ p H', H' p = some (.lst (xs ++ ys)) → Same H H' → H p = none → Q (.ref p) H') : rCat (.ref l) (.ref b) H Q :=
  ⟨l, b, xs, ys, rfl, rfl, hl, hb, hz, fun p hp => q p _ upd_same (same_new hp) hp⟩
end Gc

set_option Elab.async false
set_option linter.all false
set_option maxRecDepth 100000
set_option maxHeartbeats 2000000
/-! Kinds of things, errors by their classes, what masters say of a place. -/
namespace Gk
open PySem PySem.Spec PyProof.Rows L2 GxR Gx Gd Gn Gm Gc
/-! ### traits -/
def TR : List V := TRS.map V.str
def traitV : V → Bool
  | .str z => inV (.str z) TR
  | _ => false
theorem traitV_no {v : V} (h : isStr v = false) : traitV v = false := by
  cases v <;> first | rfl | cases h
theorem trait_mem {v : V} (h : traitV v = true) : ∃ z, v = .str z ∧ z ∈ TRS := by
  cases v with
  | str z =>
    refine ⟨z, rfl, ?_⟩
    rw [show traitV (.str z) = inV (.str z) (TRS.map V.str) from rfl, inV_strs] at h
    exact of_decide_eq_true h
  | _ => cases h
theorem trait_true {z : Str} (h : z ∈ TRS) : traitV (.str z) = true := by
  rw [show traitV (.str z) = inV (.str z) (TRS.map V.str) from rfl, inV_strs]
  exact decide_eq_true h
/-! ### whole numbers -/
def wholeV : V → Bool
  | .int _ => true
  | _ => false
def isInt : V → Bool
  | .int _ => true
  | .bl _ => true
  | _ => false
theorem Th.int_ {K : PySem.W.Frag} {H : Hp} {v : V} (h : Th H v) : ∃ t, TyX K H v t ∧ PySem.W.kitOne K t (.type "int") = some (isInt v) := by
  cases h with
  | non => exact ⟨_, .base .non, kit_ty (r := false) (by decide +kernel)⟩
  | bl b => exact ⟨_, .base (.bl b), kit_ty (r := true) (by decide +kernel)⟩
  | int i => exact ⟨_, .base (.int i), kit_ty (r := true) (by decide +kernel)⟩
  | str z => exact ⟨_, .base (.str z), kit_ty (r := false) (by decide +kernel)⟩
  | lst e => exact ⟨_, .base (.lst e), kit_ty (r := false) (by decide +kernel)⟩
  | tup e => exact ⟨_, .base (.tup e), kit_ty (r := false) (by decide +kernel)⟩
  | dK e => exact ⟨_, .base (.dK e), kit_ty (r := false) (by decide +kernel)⟩
theorem Th.bool_ {K : PySem.W.Frag} {H : Hp} {v : V} (h : Th H v) : ∃ t, TyX K H v t ∧ PySem.W.kitOne K t (.type "bool") = some (isBl v) := by
  cases h with
  | non => exact ⟨_, .base .non, kit_ty (r := false) (by decide +kernel)⟩
  | bl b => exact ⟨_, .base (.bl b), kit_ty (r := true) (by decide +kernel)⟩
  | int i => exact ⟨_, .base (.int i), kit_ty (r := false) (by decide +kernel)⟩
  | str z => exact ⟨_, .base (.str z), kit_ty (r := false) (by decide +kernel)⟩
  | lst e => exact ⟨_, .base (.lst e), kit_ty (r := false) (by decide +kernel)⟩
  | tup e => exact ⟨_, .base (.tup e), kit_ty (r := false) (by decide +kernel)⟩
  | dK e => exact ⟨_, .base (.dK e), kit_ty (r := false) (by decide +kernel)⟩
theorem Ok1.tk {P' : Addr} {H H' : Hp} {v : V} (h : Ok1 H v) (g : TabG H P') (k : Tk P' H H') : Ok1 H' v := ⟨h.1.kt g k.2, h.2⟩
theorem Ok1.same {H H' : Hp} {v : V} (h : Ok1 H v) (s : Same H H') : Ok1 H' v := ⟨h.1.same s, h.2⟩
theorem name_small {z : Str} (h : nameB z = true) : z.length ≤ 8 := by
  unfold nameB at h
  simp only [Bool.and_eq_true, decide_eq_true_eq] at h
  omega
/-! ### errors' classes -/
structure Er (K : PySem.W.Frag) (mg : Str → Option Value) (nm : Str) : Prop extends ExF K (He.ga K nm) where
  g : mg nm = some (.ref (He.ga K nm))
/-! ### what the chain says of a place -/
def fndV (ms : List MaM) : V → Option MaM
  | .str z => fnd ms z
  | _ => none
theorem fndV_some {ms : List MaM} {v : V} {m : MaM} (h : fndV ms v = some m) : v = .str m.name ∧ fnd ms m.name = some m := by
  cases v with
  | str z =>
    have e := (fnd_some (show fnd ms z = some m from h)).2
    rw [e]
    exact ⟨rfl, h⟩
  | _ => cases h
def said (l : List MaM) (y : Str) : List (Str × PlM) := l.flatMap fun m => (m.own.filter fun p => decide (p.name = y)).map fun p => (m.name, p)
def saidV (l : List MaM) : V → List (Str × PlM)
  | .str y => said l y
  | _ => []
def sd (s : Str × PlM) : PyData := .tuple [.str s.1, .tuple (s.2.sets.map setD), textD s.2.text]
theorem said_app (a b : List MaM) (y : Str) : said (a ++ b) y = said a y ++ said b y := List.flatMap_append
theorem said_one (m : MaM) (y : Str) : said [m] y = (m.own.filter fun p => decide (p.name = y)).map fun p => (m.name, p) := by
  unfold said
  rw [List.flatMap_cons, List.flatMap_nil, List.append_nil]
theorem said_len {y : Str} : ∀ {l : List MaM}, (∀ m ∈ l, m.own.length ≤ 8) → (said l y).length ≤ 8 * l.length
  | [], _ => Nat.zero_le _
  | m :: r, h => by
    have ih := said_len (y := y) (l := r) fun x hx => h x (List.mem_cons_of_mem _ hx)
    have h1 := h m List.mem_cons_self
    have h2 := List.length_filter_le (fun p : PlM => decide (p.name = y)) m.own
    show (((m.own.filter fun p => decide (p.name = y)).map fun p => (m.name, p)) ++ said r y).length ≤ _
    rw [List.length_append, List.length_map, List.length_cons]
    omega
theorem said_pl {l : List MaM} {y : Str} {s : Str × PlM} (h : s ∈ said l y) : ∃ m ∈ l, s.1 = m.name ∧ s.2 ∈ m.own ∧ s.2.name = y := by
  obtain ⟨m, hm, h⟩ := List.mem_flatMap.mp h
  obtain ⟨p, hp, rfl⟩ := List.mem_map.mp h
  obtain ⟨h1, h2⟩ := List.mem_filter.mp hp
  exact ⟨m, hm, rfl, h1, of_decide_eq_true h2⟩
def wfind : List (Str × PlM) → Str → Option (PyData × Str)
  | [], _ => none
  | s :: r, t => match s.2.sets.find? fun x => decide (x.1 = t) with
    | some x => some (x.2, s.1)
    | none => wfind r t
def tfind : List (Str × PlM) → Option (List Str × Str)
  | [] => none
  | s :: r => match s.2.text with
    | some x => some (x, s.1)
    | none => tfind r
def ownW (t : Str) : PyData := if t = "left" then .int 0 else if t = "top" then .int 0 else if t = "wide" then .int 40 else if t = "high" then .int 10 else if t = "size" then .int 1 else .str "plain"
def resW (l : List (Str × PlM)) (t : Str) : PyData := match wfind l t with
  | some x => .tuple [x.1, .tuple [.str "master", .str x.2]]
  | none => .tuple [ownW t, .tuple [.str "own"]]
def resT (l : List (Str × PlM)) : PyData := match tfind l with
  | some x => .tuple [.tuple (x.1.map .str), .str x.2]
  | none => .tuple [.none, .none]
theorem wfind_app {t : Str} : ∀ {a b : List (Str × PlM)}, wfind a t = none → wfind (a ++ b) t = wfind b t
  | [], _, _ => rfl
  | s :: r, b, h => by
    unfold wfind at h
    rw [List.cons_append]
    show wfind (s :: (r ++ b)) t = _
    rw [wfind]
    cases e : s.2.sets.find? fun x => decide (x.1 = t) with
    | some x =>
      rw [e] at h
      cases h
    | none =>
      rw [e] at h
      exact wfind_app h
theorem wfind_one {s : Str × PlM} {r : List (Str × PlM)} {t : Str} {x : Str × PyData} (h : (s.2.sets.find? fun x => decide (x.1 = t)) = some x) : wfind (s :: r) t = some (x.2, s.1) := by
  rw [wfind, h]
theorem wfind_no {s : Str × PlM} {r : List (Str × PlM)} {t : Str} (h : (s.2.sets.find? fun x => decide (x.1 = t)) = none) : wfind (s :: r) t = wfind r t := by
  rw [wfind, h]
theorem tfind_app : ∀ {a b : List (Str × PlM)}, tfind a = none → tfind (a ++ b) = tfind b
  | [], _, _ => rfl
  | s :: r, b, h => by
    unfold tfind at h
    rw [List.cons_append]
    show tfind (s :: (r ++ b)) = _
    rw [tfind]
    cases e : s.2.text with
    | some x =>
      rw [e] at h
      cases h
    | none =>
      rw [e] at h
      exact tfind_app h
theorem tfind_one {s : Str × PlM} {r : List (Str × PlM)} {x : List Str} (h : s.2.text = some x) : tfind (s :: r) = some (x, s.1) := by
  rw [tfind, h]
theorem tfind_no {s : Str × PlM} {r : List (Str × PlM)} (h : s.2.text = none) : tfind (s :: r) = tfind r := by
  rw [tfind, h]
theorem find_at {α : Type} {p : α → Bool} {l : List α} {j : Nat} {x : α} (e : l[j]? = some x) (h : p x = true) (n : (l.take j).find? p = none) : l.find? p = some x := by
  have hl := (List.getElem?_eq_some_iff.mp e).1
  have ed : l = l.take j ++ x :: l.drop (j + 1) := by
    have h1 := List.take_append_drop j l
    rw [List.drop_eq_getElem_cons hl, (List.getElem?_eq_some_iff.mp e).2] at h1
    exact h1.symm
  rw [ed, List.find?_append, n, List.find?_cons, h] <;> rfl
theorem find_more {α : Type} {p : α → Bool} {l : List α} {j : Nat} {x : α} (e : l[j]? = some x) (h : p x = false) (n : (l.take j).find? p = none) : (l.take (j + 1)).find? p = none := by
  rw [take_more e, List.find?_append, n, List.find?_cons, h] <;> rfl
theorem split_at {α : Type} {l : List α} {j : Nat} {x : α} (e : l[j]? = some x) : l = l.take j ++ x :: l.drop (j + 1) := by
  have hl := (List.getElem?_eq_some_iff.mp e).1
  have h1 := List.take_append_drop j l
  rw [List.drop_eq_getElem_cons hl, (List.getElem?_eq_some_iff.mp e).2] at h1
  exact h1.symm
/-- each place told is one of some master of the chain -/
theorem fold_mem {y : Str} : ∀ {l acc : List Str}, y ∈ l.foldl addN acc → y ∈ acc ∨ y ∈ l
  | [], acc, h => .inl h
  | z :: r, acc, h => by
    rcases fold_mem (l := r) (acc := addN acc z) h with h | h
    · unfold addN at h
      split at h
      · exact .inl h
      · rcases List.mem_append.mp h with h | h
        · exact .inl h
        · exact .inr (by rw [List.mem_singleton.mp h]; exact List.mem_cons_self)
    · exact .inr (List.mem_cons_of_mem _ h)
theorem there_said {ms : List MaM} {z y : Str} (h : y ∈ there ms z) : said (chn ms z) y ≠ [] ∧ ∃ m ∈ chn ms z, ∃ p ∈ m.own, p.name = y := by
  rcases fold_mem h with h | h
  · cases h
  · obtain ⟨m, hm, h⟩ := List.mem_flatMap.mp h
    obtain ⟨p, hp, rfl⟩ := List.mem_map.mp h
    have hm := List.mem_reverse.mp hm
    refine ⟨fun e => ?_, m, hm, p, hp, rfl⟩
    have : (m.name, p) ∈ said (chn ms z) p.name := List.mem_flatMap.mpr ⟨m, hm, List.mem_map.mpr ⟨p, List.mem_filter.mpr ⟨hp, decide_eq_true rfl⟩, rfl⟩⟩
    rw [e] at this
    cases this
theorem sd_at {K : PySem.W.Frag} {H : Hp} {v : V} {s : Str × PlM} (h : Dp K H v (sd s)) : ∃ a g ss u, v = .ref a ∧ SqT K H a [.str s.1, .ref g, u] ∧ SqT K H g ss ∧ DpAll K H ss (s.2.sets.map setD) ∧ Dp K H u (textD s.2.text) := by
  unfold sd at h
  obtain ⟨a, xs, rfl, st, hx⟩ := dp_tup h
  cases hx with
  | cons h1 t1 =>
    cases t1 with
    | cons h2 t2 =>
      cases t2 with
      | cons h3 t3 =>
        cases t3
        obtain rfl := dp_str h1
        obtain ⟨g, ps, rfl, sg, hp⟩ := dp_tup h2
        exact ⟨a, g, ps, _, rfl, st, sg, hp, h3⟩
theorem noL_setD {p : PlM} (h : OkPl p) : noLAll (p.sets.map setD) = true := noL_all fun d hd => by
  obtain ⟨s, hs, rfl⟩ := List.mem_map.mp hd
  unfold setD
  simp only [Gd.noL, noLAll, flat_noL (wOk_flat (h.right s hs).2), Bool.and_self]
theorem noL_text (o : Option (List Str)) : Gd.noL (textD o) = true := by
  cases o with
  | none => simp only [textD, Gd.noL]
  | some l =>
    simp only [textD, Gd.noL]
    exact noL_all fun d hd => by
      obtain ⟨z, _, rfl⟩ := List.mem_map.mp hd
      simp only [Gd.noL]
theorem noL_sd {s : Str × PlM} (h : OkPl s.2) : Gd.noL (sd s) = true := by
  unfold sd
  simp only [Gd.noL, noLAll, noL_setD h, noL_text, Bool.and_self]
theorem wfind_mem {t : Str} {x : PyData × Str} : ∀ {l : List (Str × PlM)}, wfind l t = some x → ∃ s ∈ l, ∃ e ∈ s.2.sets, x.1 = e.2
  | [], h => nomatch h
  | s :: r, h => by
    rw [wfind] at h
    cases e : s.2.sets.find? fun x => decide (x.1 = t) with
    | some y =>
      rw [e] at h
      cases h
      exact ⟨s, List.mem_cons_self, y, List.mem_of_find?_eq_some e, rfl⟩
    | none =>
      rw [e] at h
      obtain ⟨s', hs, q⟩ := wfind_mem h
      exact ⟨s', List.mem_cons_of_mem _ hs, q⟩
theorem tfind_mem {x : List Str × Str} : ∀ {l : List (Str × PlM)}, tfind l = some x → ∃ s ∈ l, s.2.text = some x.1
  | [], h => nomatch h
  | s :: r, h => by
    rw [tfind] at h
    cases e : s.2.text with
    | some y =>
      rw [e] at h
      cases h
      exact ⟨s, List.mem_cons_self, e⟩
    | none =>
      rw [e] at h
      obtain ⟨s', hs, q⟩ := tfind_mem h
      exact ⟨s', List.mem_cons_of_mem _ hs, q⟩
theorem flat_plain {d : PyData} (h : flatW d = true) : dep d = 0 ∧ slim d = true ∧ Gd.noL d = true := by
  cases d with
  | int i => exact ⟨by simp only [dep], by simp only [slim], by simp only [Gd.noL]⟩
  | str z => exact ⟨by simp only [dep], by simp only [slim], by simp only [Gd.noL]⟩
  | _ => cases h
theorem own_flat (t : Str) : flatW (ownW t) = true := by
  unfold ownW
  repeat (split; · rfl)
  rfl
theorem resW_ok {l : List (Str × PlM)} {t : Str} (h : ∀ s ∈ l, OkPl s.2) : dep (resW l t) = 2 ∧ slim (resW l t) = true ∧ Gd.noL (resW l t) = true := by
  unfold resW
  cases e : wfind l t with
  | none =>
    obtain ⟨h1, h2, h3⟩ := flat_plain (own_flat t)
    simp [dep, depAll, slim, slimAll, Gd.noL, noLAll, h1, h2, h3]
  | some x =>
    obtain ⟨s, hs, e', he, ex⟩ := wfind_mem e
    obtain ⟨h1, h2, h3⟩ := flat_plain (wOk_flat ((h s hs).right e' he).2)
    simp [dep, depAll, slim, slimAll, Gd.noL, noLAll, ex, h1, h2, h3]
theorem strs_plain {l : List Str} (h : l.length ≤ 1000) : depAll (l.map PyData.str) = 0 ∧ slimAll (l.map PyData.str) = true ∧ noLAll (l.map PyData.str) = true := by
  refine ⟨Nat.le_zero.mp (dep_all fun d hd => ?_), slim_all fun d hd => ?_, noL_all fun d hd => ?_⟩ <;> (obtain ⟨z, _, rfl⟩ := List.mem_map.mp hd)
  · simp only [dep, Nat.le_refl]
  · simp only [slim]
  · simp only [Gd.noL]
theorem resT_ok {l : List (Str × PlM)} (h : ∀ s ∈ l, OkPl s.2) : dep (Gk.resT l) ≤ 2 ∧ slim (Gk.resT l) = true ∧ Gd.noL (Gk.resT l) = true := by
  unfold Gk.resT
  cases e : tfind l with
  | none =>
    simp only [dep, depAll, slim, slimAll, Gd.noL, noLAll]
    decide
  | some x =>
    obtain ⟨s, hs, ex⟩ := tfind_mem e
    have hl := ((h s hs).text _ ex).1
    obtain ⟨h1, h2, h3⟩ := strs_plain (l := x.1) (by omega)
    simp [dep, depAll, slim, slimAll, Gd.noL, noLAll, h1, h2, h3, List.length_map, show x.1.length ≤ 1000 by omega]
theorem said_ok {l : List MaM} {y : Str} (h : ∀ m ∈ l, OkMa m) : ∀ s ∈ said l y, OkPl s.2 := fun s hs => by
  obtain ⟨m, hm, _, h2, _⟩ := said_pl hs
  exact ((h m hm).own _ h2).1
/-! ### slots wiped -/
theorem wipe_set_out {σ : L2.St} {i : Nat} {x : Option V} : ∀ {vs : List Nat}, i ∉ vs → wipe (σ.set i x) vs = (wipe σ vs).set i x
  | [], _ => rfl
  | v :: r, h => by
    have h1 : v ≠ i := fun e => h (by rw [e]; exact List.mem_cons_self)
    have ih := wipe_set_out (σ := σ) (x := x) (vs := r) fun m => h (List.mem_cons_of_mem _ m)
    show (wipe (σ.set i x) r).set v none = ((wipe σ r).set v none).set i x
    rw [ih, List.set_comm _ _ h1]
theorem wipe_set {σ : L2.St} {i : Nat} {x : Option V} : ∀ {vs : List Nat}, i ∈ vs → wipe (σ.set i x) vs = wipe σ vs
  | [], h => nomatch h
  | v :: r, h => by
    show (wipe (σ.set i x) r).set v none = (wipe σ r).set v none
    by_cases m : i ∈ r
    · rw [wipe_set m]
    · have e : i = v := (List.mem_cons.mp h).resolve_right m
      rw [wipe_set_out m, e, List.set_set]
theorem wipe_wipe (σ : L2.St) : ∀ vs : List Nat, wipe (wipe σ vs) vs = wipe σ vs
  | [] => rfl
  | v :: r => by
    show wipe ((wipe σ r).set v none) (v :: r) = _
    rw [wipe_set List.mem_cons_self]
    show (wipe (wipe σ r) r).set v none = (wipe σ r).set v none
    rw [wipe_wipe σ r]
theorem wset1 {σ : L2.St} {vs : List Nat} {i : Nat} {a : Option V} (hi : i ∈ vs) : wipe ((wipe σ vs).set i a) vs = wipe σ vs := by rw [wipe_set hi, wipe_wipe]
theorem wset2 {σ : L2.St} {vs : List Nat} {i j : Nat} {a b : Option V} (hi : i ∈ vs) (hj : j ∈ vs) : wipe (((wipe σ vs).set i a).set j b) vs = wipe σ vs := by rw [wipe_set hj, wset1 hi]
theorem wset3 {σ : L2.St} {vs : List Nat} {i j k : Nat} {a b c : Option V} (hi : i ∈ vs) (hj : j ∈ vs) (hk : k ∈ vs) : wipe ((((wipe σ vs).set i a).set j b).set k c) vs = wipe σ vs := by rw [wipe_set hk, wset2 hi hj]
/-! ### comprehensions of two fors -/
section
variable {J J1 : It} {n : Nat} {G : Hp → Prop} {Y : Nat → Hp → V → Hp → Prop}
theorem lc2_it (w : Walk J n G Y) {g g1 : TG} {tt tt1 : TT} {wi1 : TI} {te : TE} {vs vs1 : List Nat} {σ : L2.St} {H1 : Hp} {D : Addr} {Qd : Hp → Prop} (Pv : Nat → Hp → Prop) (h0 : Pv 0 (upd H1 D (.lst []))) (hG : ∀ i H, i ≤ n → Pv i H → G H)
    (hs : ∀ i x H H', i < n → Pv i H → Y i H x H' → g x (wipe σ vs) H' fun σ2 H2 => wipe σ2 vs = wipe σ vs ∧ tt σ2 H2 fun b H3 => if b = true then wi1 σ2 H3 fun J1 H4 => ∃ W1 : Nat → Nat → Hp → Prop, (∃ m, W1 0 m H4) ∧ ∀ j k H, W1 j k H →
      (J1.stop j H ∧ Pv (i + 1) H) ∨ (J1.go j H ∧ ∃ Nx1 : Hp → Prop, (∀ H', Nx1 H' → ∃ k', k' < k ∧ W1 (j + 1) k' H') ∧ ∀ x H', J1.yld j H x H' → g1 x (wipe σ2 vs1) H' fun σ3 H5 => wipe σ3 vs1 = wipe σ2 vs1 ∧ tt1 σ3 H5 fun b H6 =>
        if b = true then te σ3 H6 fun y H7 => ∃ acc, H7 D = some (.lst acc) ∧ acc.length < sizeLine ∧ Nx1 (upd H7 D (.lst (acc ++ [y]))) else Nx1 H6)
    else Pv (i + 1) H3) (hd : ∀ H, Pv n H → Qd H) :
    ∃ W : Nat → Nat → Hp → Prop, (∃ m, W 0 m (upd H1 D (.lst []))) ∧ ∀ i m H, W i m H →
  (J.stop i H ∧ Qd H) ∨ (J.go i H ∧ ∃ Nx : Hp → Prop, (∀ H', Nx H' → ∃ m', m' < m ∧ W (i + 1) m' H') ∧ ∀ x H', J.yld i H x H' → g x (wipe σ vs) H' fun σ2 H2 => wipe σ2 vs = wipe σ vs ∧ tt σ2 H2 fun b H3 =>
    if b = true then wi1 σ2 H3 fun J1 H4 => ∃ W1 : Nat → Nat → Hp → Prop, (∃ m, W1 0 m H4) ∧ ∀ j k H, W1 j k H →
      (J1.stop j H ∧ Nx H) ∨ (J1.go j H ∧ ∃ Nx1 : Hp → Prop, (∀ H', Nx1 H' → ∃ k', k' < k ∧ W1 (j + 1) k' H') ∧ ∀ x H', J1.yld j H x H' → g1 x (wipe σ2 vs1) H' fun σ3 H5 => wipe σ3 vs1 = wipe σ2 vs1 ∧ tt1 σ3 H5 fun b H6 =>
        if b = true then te σ3 H6 fun y H7 => ∃ acc, H7 D = some (.lst acc) ∧ acc.length < sizeLine ∧ Nx1 (upd H7 D (.lst (acc ++ [y]))) else Nx1 H6)
    else Nx H3) := by
  refine ⟨fun i m H => m = n - i ∧ i ≤ n ∧ Pv i H, ⟨n, by simp, Nat.zero_le _, h0⟩, ?_⟩
  rintro i m H ⟨rfl, hi, p⟩
  have q := hG i H hi p
  by_cases hlt : i < n
  · refine .inr ⟨w.goes i H hlt q, Pv (i + 1), fun H' p' => ⟨n - (i + 1), by omega, rfl, hlt, p'⟩, fun x H' y => hs i x H H' hlt p (w.yields i H x H' hlt q y)⟩
  · have e : i = n := by omega
    subst e
    exact .inl ⟨w.stops H q, hd H p⟩
/-- the inner one -/
theorem lcin_it (w : Walk J1 n G Y) {g1 : TG} {tt1 : TT} {te : TE} {vs1 : List Nat} {σ2 : L2.St} {H4 : Hp} {D : Addr} {Qd : Hp → Prop} (Pv : Nat → Hp → Prop) (h0 : Pv 0 H4) (hG : ∀ i H, i ≤ n → Pv i H → G H)
    (hs : ∀ j x H H', j < n → Pv j H → Y j H x H' → g1 x (wipe σ2 vs1) H' fun σ3 H5 => wipe σ3 vs1 = wipe σ2 vs1 ∧ tt1 σ3 H5 fun b H6 =>
        if b = true then te σ3 H6 fun y H7 => ∃ acc, H7 D = some (.lst acc) ∧ acc.length < sizeLine ∧ Pv (j + 1) (upd H7 D (.lst (acc ++ [y]))) else Pv (j + 1) H6) (hd : ∀ H, Pv n H → Qd H) :
    ∃ W1 : Nat → Nat → Hp → Prop, (∃ m, W1 0 m H4) ∧ ∀ j k H, W1 j k H →
      (J1.stop j H ∧ Qd H) ∨ (J1.go j H ∧ ∃ Nx1 : Hp → Prop, (∀ H', Nx1 H' → ∃ k', k' < k ∧ W1 (j + 1) k' H') ∧ ∀ x H', J1.yld j H x H' → g1 x (wipe σ2 vs1) H' fun σ3 H5 => wipe σ3 vs1 = wipe σ2 vs1 ∧ tt1 σ3 H5 fun b H6 =>
        if b = true then te σ3 H6 fun y H7 => ∃ acc, H7 D = some (.lst acc) ∧ acc.length < sizeLine ∧ Nx1 (upd H7 D (.lst (acc ++ [y]))) else Nx1 H6) := by
  refine ⟨fun i m H => m = n - i ∧ i ≤ n ∧ Pv i H, ⟨n, by simp, Nat.zero_le _, h0⟩, ?_⟩
  rintro i m H ⟨rfl, hi, p⟩
  have q := hG i H hi p
  by_cases hlt : i < n
  · refine .inr ⟨w.goes i H hlt q, Pv (i + 1), fun H' p' => ⟨n - (i + 1), by omega, rfl, hlt, p'⟩, fun x H' y => hs i x H H' hlt p (w.yields i H x H' hlt q y)⟩
  · have e : i = n := by omega
    subst e
    exact .inl ⟨w.stops H q, hd H p⟩
theorem lc2_itE (w : Walk J n G Y) {g g1 : TG} {tt tt1 : TT} {wi1 : TI} {te : TE} {vs vs1 : List Nat} {σ : L2.St} {H1 : Hp} {D : Addr} {Qd : Hp → Prop} (Pv : Nat → Hp → Prop) (h0 : Pv 0 (upd H1 D (.lst []))) (hG : ∀ i H, i ≤ n → Pv i H → G H)
    (σ0 : L2.St) (eσ : wipe σ vs = σ0) (hs : ∀ i x H H', i < n → Pv i H → Y i H x H' → g x σ0 H' fun σ2 H2 => wipe σ2 vs = σ0 ∧ tt σ2 H2 fun b H3 => if b = true then wi1 σ2 H3 fun J1 H4 => ∃ W1 : Nat → Nat → Hp → Prop, (∃ m, W1 0 m H4) ∧ ∀ j k H, W1 j k H →
      (J1.stop j H ∧ Pv (i + 1) H) ∨ (J1.go j H ∧ ∃ Nx1 : Hp → Prop, (∀ H', Nx1 H' → ∃ k', k' < k ∧ W1 (j + 1) k' H') ∧ ∀ x H', J1.yld j H x H' → g1 x (wipe σ2 vs1) H' fun σ3 H5 => wipe σ3 vs1 = wipe σ2 vs1 ∧ tt1 σ3 H5 fun b H6 =>
        if b = true then te σ3 H6 fun y H7 => ∃ acc, H7 D = some (.lst acc) ∧ acc.length < sizeLine ∧ Nx1 (upd H7 D (.lst (acc ++ [y]))) else Nx1 H6)
    else Pv (i + 1) H3) (hd : ∀ H, Pv n H → Qd H) :
    ∃ W : Nat → Nat → Hp → Prop, (∃ m, W 0 m (upd H1 D (.lst []))) ∧ ∀ i m H, W i m H →
  (J.stop i H ∧ Qd H) ∨ (J.go i H ∧ ∃ Nx : Hp → Prop, (∀ H', Nx H' → ∃ m', m' < m ∧ W (i + 1) m' H') ∧ ∀ x H', J.yld i H x H' → g x (wipe σ vs) H' fun σ2 H2 => wipe σ2 vs = wipe σ vs ∧ tt σ2 H2 fun b H3 =>
    if b = true then wi1 σ2 H3 fun J1 H4 => ∃ W1 : Nat → Nat → Hp → Prop, (∃ m, W1 0 m H4) ∧ ∀ j k H, W1 j k H →
      (J1.stop j H ∧ Nx H) ∨ (J1.go j H ∧ ∃ Nx1 : Hp → Prop, (∀ H', Nx1 H' → ∃ k', k' < k ∧ W1 (j + 1) k' H') ∧ ∀ x H', J1.yld j H x H' → g1 x (wipe σ2 vs1) H' fun σ3 H5 => wipe σ3 vs1 = wipe σ2 vs1 ∧ tt1 σ3 H5 fun b H6 =>
        if b = true then te σ3 H6 fun y H7 => ∃ acc, H7 D = some (.lst acc) ∧ acc.length < sizeLine ∧ Nx1 (upd H7 D (.lst (acc ++ [y]))) else Nx1 H6)
    else Nx H3) := by
  subst eσ
  exact lc2_it w Pv h0 hG hs hd
theorem lcin_itE (w : Walk J1 n G Y) {g1 : TG} {tt1 : TT} {te : TE} {vs1 : List Nat} {σ2 : L2.St} {H4 : Hp} {D : Addr} {Qd : Hp → Prop} (Pv : Nat → Hp → Prop) (h0 : Pv 0 H4) (hG : ∀ i H, i ≤ n → Pv i H → G H)
    (σ0 : L2.St) (eσ : wipe σ2 vs1 = σ0) (hs : ∀ j x H H', j < n → Pv j H → Y j H x H' → g1 x σ0 H' fun σ3 H5 => wipe σ3 vs1 = σ0 ∧ tt1 σ3 H5 fun b H6 =>
        if b = true then te σ3 H6 fun y H7 => ∃ acc, H7 D = some (.lst acc) ∧ acc.length < sizeLine ∧ Pv (j + 1) (upd H7 D (.lst (acc ++ [y]))) else Pv (j + 1) H6) (hd : ∀ H, Pv n H → Qd H) :
    ∃ W1 : Nat → Nat → Hp → Prop, (∃ m, W1 0 m H4) ∧ ∀ j k H, W1 j k H →
      (J1.stop j H ∧ Qd H) ∨ (J1.go j H ∧ ∃ Nx1 : Hp → Prop, (∀ H', Nx1 H' → ∃ k', k' < k ∧ W1 (j + 1) k' H') ∧ ∀ x H', J1.yld j H x H' → g1 x (wipe σ2 vs1) H' fun σ3 H5 => wipe σ3 vs1 = wipe σ2 vs1 ∧ tt1 σ3 H5 fun b H6 =>
        if b = true then te σ3 H6 fun y H7 => ∃ acc, H7 D = some (.lst acc) ∧ acc.length < sizeLine ∧ Nx1 (upd H7 D (.lst (acc ++ [y]))) else Nx1 H6) := by
  subst eσ
  exact lcin_it w Pv h0 hG hs hd
end
/-! ### the deck's own worths, a dict of the module -/
structure OW (K : PySem.W.Frag) (w : World) : Prop where
  at_ : ∀ z ∈ TRS, ∃ v, KDct K w (He.ga K "OWN_WORTHS") z v ∧ ∀ H, Dp K H v (ownW z)
def relW : PyData → Value → Bool
  | .int i, .int j _ => decide (i = j)
  | .str a, .str b _ => decide (a = b)
  | _, _ => false
def ownB (K : PySem.W.Frag) : Bool := TRS.all fun z => match PySem.W.nsIn K (He.ga K "OWN_WORTHS") z with
  | some (some u) => relW (ownW z) u
  | _ => false
theorem ownB_ok {K : PySem.W.Frag} {w : World} (h : ownB K = true) (d : ∃ es n, L2.KDict K w (He.ga K "OWN_WORTHS") es n) : OW K w := by
  refine ⟨fun z mz => ?_⟩
  have h1 := List.all_eq_true.mp h z mz
  obtain ⟨es, n, hd⟩ := d
  split at h1
  · rename_i u e
    cases eo : ownW z with
    | int i =>
      rw [eo] at h1
      cases u with
      | int j t =>
        obtain rfl : i = j := of_decide_eq_true h1
        exact ⟨.int i, ⟨es, n, _, hd.at_, hd.lit, e, ⟨t, rfl⟩⟩, fun H => .int i⟩
      | _ => cases h1
    | str s =>
      rw [eo] at h1
      cases u with
      | str j t =>
        obtain rfl : s = j := of_decide_eq_true h1
        exact ⟨.str s, ⟨es, n, _, hd.at_, hd.lit, e, ⟨t, rfl⟩⟩, fun H => .str s⟩
      | _ => cases h1
    | _ =>
      rw [eo] at h1
      cases h1
  · cases h1
/-! ### promises -/
section
variable (K : PySem.W.Frag) (P' : Addr)
def spTrait : Sp := fun vs H Q _ => ∃ v, vs = [v] ∧ Th H v ∧ Q (.bl (traitV v)) H
def spOneOf : Sp := fun vs H Q _ => ∃ (v : V) (a : Addr) (xs : List V), vs = [v, .ref a] ∧ Th H v ∧ SqT K H a xs ∧ xs.all flatV = true ∧ Q (.bl (isStr v && inV v xs)) H
def spMOfR : Sp := fun vs H Q E => ∃ (v n : V) (ms : List MaM), vs = [v, n] ∧ Dp K H v (.tuple (ms.map MaM.d)) ∧ OkMs ms ∧ Ok1 H n ∧ TabG H P' ∧
  (∀ (m : MaM) (u : V) (H' : Hp), fndV ms n = some m → Tk P' H H' → Dp K H' u m.d → Q u H') ∧ (fndV ms n = none → ∀ H', Tk P' H H' → E (.ref (He.ga K "NoMaster")) none H')
def spMsR (R : List MaM → Str → Hp → Addr → Prop) : Sp := fun vs H Q E => ∃ (v n : V) (ms : List MaM), vs = [v, n] ∧ Dp K H v (.tuple (ms.map MaM.d)) ∧ OkMs ms ∧ Ok1 H n ∧ TabG H P' ∧
  (∀ m, fndV ms n = some m → ∀ (D : Addr) (H' : Hp), Tk P' H H' → H D = none → R ms m.name H' D → Q (.ref D) H') ∧ (fndV ms n = none → ∀ H', Tk P' H H' → E (.ref (He.ga K "NoMaster")) none H')
def spSaid : Sp := fun vs H Q E => ∃ (v n y : V) (ms : List MaM), vs = [v, n, y] ∧ Dp K H v (.tuple (ms.map MaM.d)) ∧ OkMs ms ∧ Ok1 H n ∧ Ok1 H y ∧ TabG H P' ∧
  (fndV ms n = none → ∀ H', Tk P' H H' → E (.ref (He.ga K "NoMaster")) none H') ∧ (∀ m, fndV ms n = some m → saidV (chn ms m.name) y = [] → ∀ H', Tk P' H H' → E (.ref (He.ga K "NoPlace")) none H') ∧
  (∀ m, fndV ms n = some m → saidV (chn ms m.name) y ≠ [] → ∀ (D : Addr) (H' : Hp) (xs : List V), Tk P' H H' → H D = none → H' D = some (.lst xs) → DpAll K H' xs ((saidV (chn ms m.name) y).map sd) → Q (.ref D) H')
def spWSaid : Sp := fun vs H Q _ => ∃ (D : Addr) (t : Str) (xs : List V) (l : List (Str × PlM)), vs = [.ref D, .str t] ∧ t ∈ TRS ∧ H D = some (.lst xs) ∧ DpAll K H xs (l.map sd) ∧ ∀ (u : V) (H' : Hp), Same H H' → Dp K H' u (resW l t) → Q u H'
def spWBy : Sp := fun vs H Q E => ∃ (v n y t : V) (ms : List MaM), vs = [v, n, y, t] ∧ Dp K H v (.tuple (ms.map MaM.d)) ∧ OkMs ms ∧ Ok1 H n ∧ Ok1 H y ∧ Ok1 H t ∧ TabG H P' ∧
  (fndV ms n = none → ∀ H', Tk P' H H' → E (.ref (He.ga K "NoMaster")) none H') ∧ (∀ m, fndV ms n = some m → saidV (chn ms m.name) y = [] → ∀ H', Tk P' H H' → E (.ref (He.ga K "NoPlace")) none H') ∧
  (∀ m, fndV ms n = some m → saidV (chn ms m.name) y ≠ [] → traitV t = false → ∀ H', Tk P' H H' → E (.ref (He.ga K "NoTrait")) none H') ∧
  (∀ m z, fndV ms n = some m → saidV (chn ms m.name) y ≠ [] → t = .str z → z ∈ TRS → ∀ (u : V) (H' : Hp), Tk P' H H' → Dp K H' u (resW (saidV (chn ms m.name) y) z) → Q u H')
def spTBy : Sp := fun vs H Q E => ∃ (v n y : V) (ms : List MaM), vs = [v, n, y] ∧ Dp K H v (.tuple (ms.map MaM.d)) ∧ OkMs ms ∧ Ok1 H n ∧ Ok1 H y ∧ TabG H P' ∧
  (fndV ms n = none → ∀ H', Tk P' H H' → E (.ref (He.ga K "NoMaster")) none H') ∧ (∀ m, fndV ms n = some m → saidV (chn ms m.name) y = [] → ∀ H', Tk P' H H' → E (.ref (He.ga K "NoPlace")) none H') ∧
  (∀ m, fndV ms n = some m → saidV (chn ms m.name) y ≠ [] → ∀ (u : V) (H' : Hp), Tk P' H H' → Dp K H' u (resT (saidV (chn ms m.name) y)) → Q u H')
end
end Gk

set_option Elab.async false
set_option linter.all false
set_option maxRecDepth 100000
set_option maxHeartbeats 2000000
namespace K6
open PySem PySem.Spec PyProof.Rows L2 GxR Gx Gd Gn Gm Gc Gk
def top (i : Nat) : Stmt := PySem.Challenge.pw_mastershow_k06_worths_by_masters.main.body.getD i (.Pass ⟨0, 0, 0, 0⟩)
abbrev FnP (K : PySem.W.Frag) (x : Str) (st : Stmt) (f : Addr) (fd : FuncData) : Prop := FunD K x x (defArgs st) (defBody st) (defScope st) [] [] f fd
structure Txt (mg : Str → Option Value) : Prop where
  m_len : mg "len" = none
  m_all : mg "all" = none
  m_bool : mg "bool" = none
  m_isinstance : mg "isinstance" = none
  m_list : mg "list" = none
  m_range : mg "range" = none
  m_str : mg "str" = none
  m_int : mg "int" = none
  m_tuple : mg "tuple" = none
  m_zip : mg "zip" = none
  m_reversed : mg "reversed" = none
abbrev slaw_pen : Stmt := top 23
theorem sclaw_pen : FnScope ["script"] ["script"] (defScope slaw_pen) := ⟨rfl, rfl, rfl, by decide +kernel, rfl, by decide +kernel, by decide +kernel⟩
abbrev slaw_draw : Stmt := top 24
theorem sclaw_draw : FnScope ["pen", "many", "found", "at", "cell", "number"] ["pen", "many"] (defScope slaw_draw) := ⟨rfl, rfl, rfl, by decide +kernel, rfl, by decide +kernel, by decide +kernel⟩
abbrev slaw_traits : Stmt := top 29
theorem sclaw_traits : FnScope [] [] (defScope slaw_traits) := ⟨rfl, rfl, rfl, by decide +kernel, rfl, by decide +kernel, by decide +kernel⟩
abbrev slaw_worth : Stmt := top 28
theorem sclaw_worth : FnScope ["pen", "trait"] ["pen", "trait"] (defScope slaw_worth) := ⟨rfl, rfl, rfl, by decide +kernel, rfl, by decide +kernel, by decide +kernel⟩
abbrev slaw_line : Stmt := top 26
theorem sclaw_line : FnScope ["pen", "words", "line", "k"] ["pen"] (defScope slaw_line) := ⟨rfl, rfl, rfl, by decide +kernel, rfl, by decide +kernel, by decide +kernel⟩
abbrev slaw_lines : Stmt := top 27
theorem sclaw_lines : FnScope ["pen", "many", "k"] ["pen"] (defScope slaw_lines) := ⟨rfl, rfl, rfl, by decide +kernel, rfl, by decide +kernel, by decide +kernel⟩
abbrev slaw_place : Stmt := top 30
theorem sclaw_place : FnScope ["pen", "name", "settings", "trait"] ["pen", "name"] (defScope slaw_place) := ⟨rfl, rfl, rfl, by decide +kernel, rfl, by decide +kernel, by decide +kernel⟩
abbrev slaw_names : Stmt := top 25
theorem sclaw_names : FnScope ["pen", "many", "letters", "some", "step", "code", "k", "begin"] ["pen", "many"] (defScope slaw_names) := ⟨rfl, rfl, rfl, by decide +kernel, rfl, by decide +kernel, by decide +kernel⟩
abbrev slaw_masters : Stmt := top 31
theorem sclaw_masters : FnScope ["pen", "most", "pool", "names", "made", "k", "over", "own", "name"] ["pen", "most", "pool"] (defScope slaw_masters) := ⟨rfl, rfl, rfl, by decide +kernel, rfl, by decide +kernel, by decide +kernel⟩
abbrev slaw_tall : Stmt := top 38
theorem sclaw_tall : FnScope ["pen", "names", "places", "made", "k", "own", "place"] ["pen"] (defScope slaw_tall) := ⟨rfl, rfl, rfl, by decide +kernel, rfl, by decide +kernel, by decide +kernel⟩
abbrev slaw_wide : Stmt := top 37
theorem sclaw_wide : FnScope ["pen", "names", "places", "made", "k", "own", "place"] ["pen"] (defScope slaw_wide) := ⟨rfl, rfl, rfl, by decide +kernel, rfl, by decide +kernel, by decide +kernel⟩
section
variable {P : Program} {w : World} {K : PySem.W.Frag} {mg : Str → Option Value} {base : Heap}
theorem ok_draw {f : Addr} {fd : FuncData} (F : FnP K "_law_draw" slaw_draw f fd) (T : Txt mg) : FnOk P w K mg base CX0 1 f fd ["pen", "many"] spDraw := by
  refine okN F sclaw_draw (fun vs H Q E h => ?_) (fun cdv A outer s H vs Q E hr h => ?_)
  · obtain ⟨p, L, ns, n, many, rfl, _⟩ := h
    rfl
  · obtain ⟨p, L, ns, n, many, rfl, hP, h0, hm, hn, k⟩ := h
    refine ⟨_, (pss_cons (ps_if (pt_cmpR op_gt (pe_ix ix_list (pv 0) pe_int (fun _ _ => rfl)) pe_int (nomark _)) (pss_cons (ps_set (i := 2) sclaw_draw.nd rfl (Or.inl rfl) (pe_op op_mod (pe_ix ix_list (pv 0) pe_int (fun _ _ => rfl)) (pv 1)))
      (pss_cons (ps_asg (pe_op op_fdiv (pe_ix ix_list (pv 0) pe_int (fun _ _ => rfl)) (pv 1)) (pg_sub (pv 0) pe_int set_list))
      (pss_one (ps_ret (pv 2))))) pss_nil)
      (pss_cons (ps_set (i := 3) sclaw_draw.nd rfl (Or.inl rfl) (pe_ix ix_list (pv 0) pe_int (fun _ _ => rfl)))
      (pss_cons (ps_asg (pe_op op_add (pv 3) pe_int) (pg_sub (pv 0) pe_int set_list))
      (pss_cons (ps_set (i := 4) sclaw_draw.nd rfl (Or.inl rfl) pe_int)
      (pss_cons (ps_if (pt_cmpR op_gt (pe_callB call_len_seq (by rfl) T.m_len (by decide +kernel) (pa_cons (pe_ix ix_list (pv 0) pe_int (fun _ _ => rfl)) pa_nil)) pe_int (nomark _)) (pss_one (ps_set (i := 4) sclaw_draw.nd rfl (Or.inl rfl) (pe_ix ix_list (pe_ix ix_list (pv 0) pe_int (fun _ _ => rfl)) (pe_op op_mod (pv 3) (pe_callB call_len_seq (by rfl) T.m_len (by decide +kernel) (pa_cons (pe_ix ix_list (pv 0) pe_int (fun _ _ => rfl)) pa_nil))) (fun _ _ => rfl)))) pss_nil)
      (pss_cons (ps_if (PW.pt (pw_and (pt_cmpR op_lt (pv 3) (pe_callB call_len_seq (by rfl) T.m_len (by decide +kernel) (pa_cons (pe_ix ix_list (pv 0) pe_int (fun _ _ => rfl)) pa_nil)) (nomark _)) (pw_and1 (pt_cmpR op_ge (pv 4) (pe_op op_pow pe_int pe_int) (nomark _))))) (pss_cons (ps_asg (pe_op op_fdiv (pv 4) (pv 1)) (pg_sub (pv 0) pe_int set_list))
      (pss_one (ps_ret (pe_op op_mod (pv 4) (pv 1))))) pss_nil)
      (pss_cons (ps_set (i := 5) sclaw_draw.nd rfl (Or.inl rfl) (pe_op op_mod (pe_op op_mul (pe_op op_add (pe_op op_mod (pv 4) pe_int) pe_int) (pe_op op_add (pe_op op_add (pe_op op_mul (pv 3) (pv 3)) (pe_op op_mul pe_int (pv 3))) pe_int)) pe_int))
      (pss_one (ps_ret (pe_op op_mod (pe_op op_fdiv (pe_op op_mod (pe_op op_mul (pe_op op_mod (pe_op op_add (pe_op op_pow (pv 5) pe_int) (pe_op op_mul pe_int (pv 3))) pe_int) pe_int) pe_int) pe_int) (pv 1))))))))))), ?_⟩
    obtain ⟨a, r, hp, ha, han⟩ := hP.at_
    refine ⟨_, rfl, p, _, _, _, rfl, rfl, SqL.of hp, at_of (j := 2) rfl rfl, _, _, rfl, rfl, _, rfl, ite2 (fun hc => ?_) fun hc => ?_⟩
    · refine ⟨_, rfl, p, _, _, _, rfl, rfl, SqL.of hp, at_of (j := 2) rfl rfl, _, rfl, _, _, rfl, rfl, h0, ?_⟩
      refine ⟨_, rfl, p, _, _, _, rfl, rfl, SqL.of hp, at_of (j := 2) rfl rfl, _, rfl, _, _, rfl, rfl, ⟨h0, (by omega)⟩, _, rfl, p, _, _, 2, rfl, rfl, hp, rfl, ?_⟩
      refine ⟨_, rfl, k _ _ (Int.emod_nonneg _ (by omega)) (Int.emod_lt_of_pos _ h0) (hP.put ha (by omega)) But.upd⟩
    · -- at = pen[1]; pen[1] = at + 1; cell = 7
      refine ⟨_, rfl, p, _, _, _, rfl, rfl, SqL.of hp, at_of (j := 1) rfl rfl, ?_⟩
      refine ⟨_, rfl, _, _, rfl, rfl, _, rfl, p, _, _, 1, rfl, rfl, hp, rfl, ?_⟩
      have hP1 : Pen (upd H p (.lst [.ref L, .int (a + 1), .int r])) p L ns (n + 1) := hP.put (by omega) (by omega)
      have b1 : But p H (upd H p (.lst [.ref L, .int (a + 1), .int r])) := But.upd
      generalize eH : upd H p (.lst [.ref L, .int (a + 1), .int r]) = H1 at hP1 b1
      have hp1 : H1 p = some (.lst [.ref L, .int (a + 1), .int r]) := by rw [← eH]; exact upd_same
      have hl1 := hP1.ls
      show tSeq _ _ _ _ (upd H p (.lst [.ref L, .int (a + 1), .int r]))
      rw [eH]
      have eL : (ns.map V.int).length = ns.length := List.length_map ..
      apply viaInt
      · intro rest
        -- if len(pen[0]) > 0: cell = pen[0][at % len(pen[0])]
        refine ⟨_, rfl, p, _, _, _, rfl, rfl, SqL.of hp1, at_of (j := 0) rfl rfl, L, _, rfl, .inl (SqL.of hl1), _, _, rfl, rfl, _, rfl, ite2 (fun hc => ?_) fun hc => ?_⟩
        · have hpos : 0 < ns.length := by
            have h1 := of_decide_eq_true hc
            rw [eL] at h1
            omega
          have hlp : (0 : Int) < ((ns.length : Nat) : Int) := by omega
          have hm0 := Int.emod_nonneg a (show ((ns.length : Nat) : Int) ≠ 0 by omega)
          have hm1 := Int.emod_lt_of_pos a hlp
          obtain ⟨j, ej⟩ : ∃ j : Nat, a % ((ns.length : Nat) : Int) = (j : Int) := ⟨_, (Int.toNat_of_nonneg hm0).symm⟩
          have hj : j < ns.length := by
            rw [ej] at hm1
            omega
          refine ⟨_, rfl, p, _, _, _, rfl, rfl, SqL.of hp1, at_of (j := 0) rfl rfl, _, rfl, _, rfl, p, _, _, _, rfl, rfl, SqL.of hp1, at_of (j := 0) rfl rfl, L, _, rfl, .inl (SqL.of hl1), _, _, rfl, rfl, (by rw [eL]; exact hlp), ?_⟩
          obtain ⟨cell, ec⟩ : ∃ z, ns[j]? = some z := ⟨_, List.getElem?_eq_getElem hj⟩
          refine ⟨L, _, _, .int cell, rfl, rfl, SqL.of hl1, at_of (j := j) (by rw [eL]; exact ej) (by rw [List.getElem?_map, ec]; rfl), ?_⟩
          exact rest cell
        · exact rest 7
      · intro cell
        -- if at < len(pen[0]) and cell >= 10 ** 18
        refine ⟨_, rfl, _, rfl, p, _, _, _, rfl, rfl, SqL.of hp1, at_of (j := 0) rfl rfl, L, _, rfl, .inl (SqL.of hl1), _, _, rfl, rfl, _, rfl, ?_⟩
        have c1 : (0 : Int) ≤ cell % 2147483629 := Int.emod_nonneg _ (by decide)
        have c2 : cell % 2147483629 < 2147483629 := Int.emod_lt_of_pos _ (by decide)
        · refine ite2 (fun _ => ?_) fun _ => ?_
          · refine ⟨_, rfl, _, _, rfl, rfl, ⟨by decide, by decide, by decide⟩, _, _, rfl, rfl, _, rfl, ite2 (fun _ => ?_) fun _ => ?_⟩
            · refine ⟨_, rfl, _, rfl, _, _, rfl, rfl, ⟨h0, (by omega)⟩, _, rfl, p, _, _, 2, rfl, rfl, hp1, rfl, ?_⟩
              refine ⟨_, rfl, _, rfl, _, _, rfl, rfl, h0, ?_⟩
              exact k _ _ (Int.emod_nonneg _ (by omega)) (Int.emod_lt_of_pos _ h0) (hP1.put (by omega) (by omega)) (b1.trans But.upd)
            · refine ⟨_, rfl, _, _, rfl, rfl, (by show (0 : Int) < _; decide), _, _, rfl, rfl, _, rfl, _, rfl, _, _, rfl, rfl, .inl ⟨by omega, by omega⟩, _, rfl, _, _, rfl, rfl, .inl ⟨by decide, by decide⟩, _, _, rfl, rfl, _, _, rfl, rfl, _, _, rfl, rfl, .inl ⟨by omega, by omega⟩, _, _, rfl, rfl, (by show (0 : Int) < _; decide), ?_⟩
              generalize eN : (cell % 2147483629 + 11) * (a * a + 5 * a + 3) % 2147483647 = N
              have n1 : (0 : Int) ≤ N := by rw [← eN]; exact Int.emod_nonneg _ (by decide)
              have n2 : N < 2147483647 := by rw [← eN]; exact Int.emod_lt_of_pos _ (by decide)
              refine ⟨_, rfl, _, _, rfl, rfl, ⟨by decide, by decide, by omega⟩, _, rfl, _, _, rfl, rfl, .inl ⟨by decide, by decide⟩, _, _, rfl, rfl, _, _, rfl, rfl, (by show (0 : Int) < _; decide), ?_⟩
              generalize eM : (N ^ (3 : Int).toNat + 69621 * a) % 2147483587 = M
              have m1 : (0 : Int) ≤ M := by rw [← eM]; exact Int.emod_nonneg _ (by decide)
              have m2 : M < 2147483587 := by rw [← eM]; exact Int.emod_lt_of_pos _ (by decide)
              refine ⟨_, _, rfl, rfl, .inl ⟨by omega, by omega⟩, _, _, rfl, rfl, (by show (0 : Int) < _; decide), _, _, rfl, rfl, ⟨by decide, by decide⟩, _, rfl, _, _, rfl, rfl, h0, ?_⟩
              exact k _ _ (Int.emod_nonneg _ (by omega)) (Int.emod_lt_of_pos _ h0) hP1 b1
          · refine iteF ?_
            refine ⟨_, rfl, _, _, rfl, rfl, (by show (0 : Int) < _; decide), _, _, rfl, rfl, _, rfl, _, rfl, _, _, rfl, rfl, .inl ⟨by omega, by omega⟩, _, rfl, _, _, rfl, rfl, .inl ⟨by decide, by decide⟩, _, _, rfl, rfl, _, _, rfl, rfl, _, _, rfl, rfl, .inl ⟨by omega, by omega⟩, _, _, rfl, rfl, (by show (0 : Int) < _; decide), ?_⟩
            generalize eN : (cell % 2147483629 + 11) * (a * a + 5 * a + 3) % 2147483647 = N
            have n1 : (0 : Int) ≤ N := by rw [← eN]; exact Int.emod_nonneg _ (by decide)
            have n2 : N < 2147483647 := by rw [← eN]; exact Int.emod_lt_of_pos _ (by decide)
            refine ⟨_, rfl, _, _, rfl, rfl, ⟨by decide, by decide, by omega⟩, _, rfl, _, _, rfl, rfl, .inl ⟨by decide, by decide⟩, _, _, rfl, rfl, _, _, rfl, rfl, (by show (0 : Int) < _; decide), ?_⟩
            generalize eM : (N ^ (3 : Int).toNat + 69621 * a) % 2147483587 = M
            have m1 : (0 : Int) ≤ M := by rw [← eM]; exact Int.emod_nonneg _ (by decide)
            have m2 : M < 2147483587 := by rw [← eM]; exact Int.emod_lt_of_pos _ (by decide)
            refine ⟨_, _, rfl, rfl, .inl ⟨by omega, by omega⟩, _, _, rfl, rfl, (by show (0 : Int) < _; decide), _, _, rfl, rfl, ⟨by decide, by decide⟩, _, rfl, _, _, rfl, rfl, h0, ?_⟩
            exact k _ _ (Int.emod_nonneg _ (by omega)) (Int.emod_lt_of_pos _ h0) hP1 b1

/-! ### the pen is made -/
def spPen (K : PySem.W.Frag) : Sp := fun vs H Q _ => ∃ (a : Addr) (ns : List Int), vs = [.ref a] ∧ SqL K H a (ns.map V.int) ∧ ns.length ≤ 63 ∧ ∀ (p L : Addr) (H' : Hp), H p = none → H L = none → Pen H' p L ns 0 → Same H H' → Q (.ref p) H'
theorem ok_pen {f : Addr} {fd : FuncData} (F : FnP K "_law_pen" slaw_pen f fd) (T : Txt mg) : FnOk P w K mg base CX0 1 f fd ["script"] (spPen K) := by
  refine okN F sclaw_pen (fun vs H Q E h => ?_) (fun cdv A outer s H vs Q E hr h => ?_)
  · obtain ⟨a, ns, rfl, _⟩ := h
    rfl
  · obtain ⟨a, ns, rfl, hS, hl, q⟩ := h
    refine ⟨_, (pss_one (ps_ret (pe_lst (pa_cons (pe_callTy call_list_of (by rfl) T.m_list (by decide +kernel) (pa_cons (pe_slice sl_list (pv 0) po_none (po_some pe_int)) pa_nil)) (pa_cons pe_int (pa_cons pe_int pa_nil)))))), ?_⟩
    refine ⟨.ref a, rfl, 63, rfl, a, ns.map V.int, rfl, hS, fun c hc => ?_⟩
    have ec : cutV (ns.map V.int) none (some 63) = ns.map V.int := cut63 (by rw [List.length_map]; exact hl)
    rw [ec]
    refine ⟨c, _, rfl, .inl (SqL.of upd_same), fun L hL => ?_⟩
    refine ⟨(by show 3 ≤ sizeLine; decide), fun p hp => ?_⟩
    have s1 : Same H (upd H c (.lst (ns.map V.int))) := fun b o e => by rw [upd_ne (ne_of_none e hc)]; exact e
    have s2 : Same (upd H c (.lst (ns.map V.int))) (upd (upd H c (.lst (ns.map V.int))) L (.lst (ns.map V.int))) := fun b o e => by rw [upd_ne (ne_of_none e hL)]; exact e
    have s3 : Same (upd (upd H c (.lst (ns.map V.int))) L (.lst (ns.map V.int))) (upd (upd (upd H c (.lst (ns.map V.int))) L (.lst (ns.map V.int))) p (.lst [.ref L, .int 0, .int 0])) := fun b o e => by rw [upd_ne (ne_of_none e hp)]; exact e
    have hLp : L ≠ p := ne_of_none upd_same hp
    exact q p L _ ((s1.trans s2).free hp) (s1.free hL) ⟨⟨0, 0, upd_same, Int.le_refl _, Int.le_refl _⟩, by rw [upd_ne hLp]; exact upd_same, hl⟩ ((s1.trans s2).trans s3)

/-! ### traits, worths drawn -/
def spTraits : Sp := fun vs H Q _ => vs = [] ∧ ∀ c H', H' c = some (.lst (TRS.map V.str)) → Same H H' → H c = none → Q (.ref c) H'
theorem ok_traits {f : Addr} {fd : FuncData} (F : FnP K "_law_traits" slaw_traits f fd) : FnOk P w K mg base CX0 1 f fd [] spTraits := by
  refine okN F sclaw_traits (fun vs H Q E h => ?_) (fun cdv A outer s H vs Q E hr h => ?_)
  · obtain ⟨rfl, _⟩ := h
    rfl
  · obtain ⟨rfl, q⟩ := h
    refine ⟨_, (pss_one (ps_ret (pe_lst (pa_cons pe_str (pa_cons pe_str (pa_cons pe_str (pa_cons pe_str (pa_cons pe_str (pa_cons pe_str pa_nil))))))))), ?_⟩
    exact ⟨(by show 6 ≤ sizeLine; decide), fun c hc => q c _ upd_same (same_new hc) hc⟩
def spWorthL (K : PySem.W.Frag) : Sp := fun vs H Q _ => ∃ (p L : Addr) (ns : List Int) (n : Nat) (z : Str), vs = [.ref p, .str z] ∧ z ∈ TRS ∧ Pen H p L ns n ∧ n + 100 < 1000000 ∧
  ∀ (v : V) (d : PyData) (H' : Hp), Dp K H' v d → wOk z d = true → Pen H' p L ns (n + 4) → Kp p H H' → Q v H'
theorem ok_worthL {f : Addr} {fd : FuncData} (F : FnP K "_law_worth" slaw_worth f fd) (D_law_draw : Dn P w K mg base 1 "_law_draw" ["pen", "many"] spDraw) : FnOk P w K mg base CX0 2 f fd ["pen", "trait"] (spWorthL K) := by
  refine okN F sclaw_worth (fun vs H Q E h => ?_) (fun cdv A outer s H vs Q E hr h => ?_)
  · obtain ⟨p, L, ns, n, z, rfl, _⟩ := h
    rfl
  · obtain ⟨p, L, ns, n, z, rfl, mz, hP, hn, q⟩ := h
    refine ⟨_, (pss_cons (ps_if (pt_cmpR op_eq (pv 1) pe_str (nomark _)) (pss_one (ps_ret (pe_ix ix_list (pe_lst (pa_cons pe_str (pa_cons pe_str (pa_cons pe_str (pa_cons pe_str (pa_cons pe_str pa_nil)))))) (pe_dn D_law_draw (hr.mono (by decide)) rfl (pa_cons (pv 0) (pa_cons pe_int pa_nil))) (fun _ _ => rfl)))) pss_nil)
      (pss_cons (ps_if (pt_cmpR op_in_seq (pv 1) (pe_tup (pa_cons pe_str (pa_cons pe_str pa_nil))) rfl) (pss_one (ps_ret (pe_ix ix_list (pe_lst (pa_cons (pe_dn D_law_draw (hr.mono (by decide)) rfl (pa_cons (pv 0) (pa_cons pe_int pa_nil))) (pa_cons (pe_op op_add (pe_un un_neg pe_int) (pe_dn D_law_draw (hr.mono (by decide)) rfl (pa_cons (pv 0) (pa_cons pe_int pa_nil)))) (pa_cons (pe_un un_neg pe_int) (pa_cons pe_int pa_nil))))) (pe_dn D_law_draw (hr.mono (by decide)) rfl (pa_cons (pv 0) (pa_cons pe_int pa_nil))) (fun _ _ => rfl)))) pss_nil)
      (pss_cons (ps_if (pt_cmpR op_eq (pv 1) pe_str (nomark _)) (pss_one (ps_ret (pe_ix ix_list (pe_lst (pa_cons pe_int (pa_cons pe_int (pa_cons pe_int (pa_cons (pe_op op_add pe_int (pe_dn D_law_draw (hr.mono (by decide)) rfl (pa_cons (pv 0) (pa_cons pe_int pa_nil)))) (pa_cons pe_int pa_nil)))))) (pe_dn D_law_draw (hr.mono (by decide)) rfl (pa_cons (pv 0) (pa_cons pe_int pa_nil))) (fun _ _ => rfl)))) pss_nil)
      (pss_one (ps_ret (pe_ix ix_list (pe_lst (pa_cons (pe_op op_add pe_int (pe_dn D_law_draw (hr.mono (by decide)) rfl (pa_cons (pv 0) (pa_cons pe_int pa_nil)))) (pa_cons (pe_op op_add pe_int (pe_dn D_law_draw (hr.mono (by decide)) rfl (pa_cons (pv 0) (pa_cons pe_int pa_nil)))) (pa_cons (pe_op op_add pe_int (pe_dn D_law_draw (hr.mono (by decide)) rfl (pa_cons (pv 0) (pa_cons pe_int pa_nil)))) (pa_cons pe_int (pa_cons pe_int pa_nil)))))) (pe_dn D_law_draw (hr.mono (by decide)) rfl (pa_cons (pv 0) (pa_cons pe_int pa_nil))) (fun _ _ => rfl))))))), ?_⟩
    refine ⟨_, rfl, rfl, _, rfl, iteB (fun h1 => ?_) fun h1 => ?_⟩
    · have e1 : z = "ink" := V.str.inj (of_decide_eq_true h1)
      refine ⟨(by show 5 ≤ sizeLine; decide), fun D hD => ?_⟩
      have nD : D ≠ p := hP.lt_new hD
      refine ⟨_, rfl, p, L, ns, n, 5, rfl, hP.new hD, (by decide), (by decide), (by omega), fun k H1 k0 k1 hP1 b1 => ?_⟩
      obtain ⟨v, e, hv⟩ := listAt (xs := [V.str "plain", V.str "red", V.str "b1", V.str "abcdefg8", V.str "z"]) k0 k1
      refine ⟨D, _, _, v, rfl, rfl, SqL.of ((b1 D nD).trans upd_same), e, ?_⟩
      have kp : Kp p H H1 := (Kp.new hD).trans b1.kp
      have go : ∀ s : Str, v = .str s → nameB s = true → Q v H1 := fun s ev hs => by
        subst ev
        exact q _ (.str s) H1 (.str s) (by show (decide (z = "ink") && nameB s) = true; rw [decide_eq_true e1, hs] <;> rfl) (hP1.up (by omega)) kp
      simp only [List.mem_cons, List.not_mem_nil, or_false] at hv
      rcases hv with rfl | rfl | rfl | rfl | rfl <;> exact go _ rfl (by decide +kernel)
    · have n1 : z ≠ "ink" := fun e => of_decide_eq_false h1 (by rw [e])
      have fin : ∀ (v : V) (H' : Hp), (∃ i, v = .int i ∧ (bnd z).1 ≤ i ∧ i ≤ (bnd z).2) → Pen H' p L ns (n + 4) → Kp p H H' → Q v H' := fun v H' hv hP' k' => by
        obtain ⟨i, rfl, i1, i2⟩ := hv
        exact q _ (.int i) H' (.int i) (wOk_int n1 i1 i2) hP' k'
      refine ⟨_, rfl, (by show 2 ≤ sizeLine; decide), fun t ht => ?_⟩
      refine ⟨t, _, rfl, .inr (SqT.of upd_same), rfl, rfl, _, rfl, ?_⟩
      have hP0 : Pen (upd H t (.tup [V.str "left", V.str "top"])) p L ns n := hP.new ht
      have k0 : Kp p H (upd H t (.tup [V.str "left", V.str "top"])) := Kp.new ht
      revert hP0 k0
      generalize upd H t (.tup [V.str "left", V.str "top"]) = H0
      intro hP0 k0
      refine iteB (fun h2 => ?_) fun h2 => ?_
      · have hb : bnd z = (-999, 999) := by
          obtain ⟨y, hy, e⟩ := List.any_eq_true.mp (show ([V.str "left", V.str "top"].any fun y => eqV y (.str z)) = true from h2)
          simp only [List.mem_cons, List.not_mem_nil, or_false] at hy
          rcases hy with rfl | rfl <;> (rw [← (beq_iff_eq.mp e : _ = z)]; decide +kernel)
        rw [hb] at fin
        refine ⟨_, rfl, p, L, ns, n, 9, rfl, hP0, (by decide), (by decide), (by omega), fun a1 H1 a10 a11 hP1 b1 => ?_⟩
        refine ⟨_, rfl, _, rfl, p, L, ns, _, 1999, rfl, hP1, (by decide), (by decide), (by omega), fun a2 H2 a20 a21 hP2 b2 => ?_⟩
        refine ⟨_, _, rfl, rfl, _, rfl, (by show 4 ≤ sizeLine; decide), fun D hD => ?_⟩
        have nD : D ≠ p := hP2.lt_new hD
        refine ⟨_, rfl, p, L, ns, _, 4, rfl, hP2.new hD, (by decide), (by decide), (by omega), fun k H3 k0' k1' hP3 b3 => ?_⟩
        obtain ⟨v, e, hv⟩ := listAt (xs := [V.int a1, V.int (-999 + a2), V.int (-999), V.int 999]) k0' k1'
        refine ⟨D, _, _, v, rfl, rfl, SqL.of ((b3 D nD).trans upd_same), e, ?_⟩
        refine fin v H3 ?_ (hP3.up (by omega)) ((((k0.trans b1.kp).trans b2.kp).trans (Kp.new hD)).trans b3.kp)
        simp only [List.mem_cons, List.not_mem_nil, or_false] at hv
        rcases hv with rfl | rfl | rfl | rfl
        · exact ⟨_, rfl, (by show (-999 : Int) ≤ a1; omega), (by show a1 ≤ 999; omega)⟩
        · exact ⟨_, rfl, (by show (-999 : Int) ≤ -999 + a2; omega), (by show -999 + a2 ≤ 999; omega)⟩
        · exact ⟨_, rfl, (by decide), (by decide)⟩
        · exact ⟨_, rfl, (by decide), (by decide)⟩
      · refine ⟨_, rfl, rfl, _, rfl, iteB (fun h3 => ?_) fun h3 => ?_⟩
        · have e3 : z = "size" := V.str.inj (of_decide_eq_true h3)
          have hb : bnd z = (1, 99) := by rw [e3]; decide +kernel
          rw [hb] at fin
          refine ⟨_, rfl, p, L, ns, n, 99, rfl, hP0, (by decide), (by decide), (by omega), fun a1 H1 a10 a11 hP1 b1 => ?_⟩
          refine ⟨_, _, rfl, rfl, (by show 5 ≤ sizeLine; decide), fun D hD => ?_⟩
          have nD : D ≠ p := hP1.lt_new hD
          refine ⟨_, rfl, p, L, ns, _, 5, rfl, hP1.new hD, (by decide), (by decide), (by omega), fun k H3 k0' k1' hP3 b3 => ?_⟩
          obtain ⟨v, e, hv⟩ := listAt (xs := [V.int 1, V.int 2, V.int 3, V.int (1 + a1), V.int 99]) k0' k1'
          refine ⟨D, _, _, v, rfl, rfl, SqL.of ((b3 D nD).trans upd_same), e, ?_⟩
          refine fin v H3 ?_ (hP3.up (by omega)) (((k0.trans b1.kp).trans (Kp.new hD)).trans b3.kp)
          simp only [List.mem_cons, List.not_mem_nil, or_false] at hv
          rcases hv with rfl | rfl | rfl | rfl | rfl
          · exact ⟨_, rfl, (by decide), (by decide)⟩
          · exact ⟨_, rfl, (by decide), (by decide)⟩
          · exact ⟨_, rfl, (by decide), (by decide)⟩
          · exact ⟨_, rfl, (by show (1 : Int) ≤ 1 + a1; omega), (by show 1 + a1 ≤ 99; omega)⟩
          · exact ⟨_, rfl, (by decide), (by decide)⟩
        · have n3 : z ≠ "size" := fun e => of_decide_eq_false h3 (by rw [e])
          have hb : bnd z = (1, 999) := by
            simp only [TRS, List.mem_cons, List.not_mem_nil, or_false] at mz
            rcases mz with rfl | rfl | rfl | rfl | rfl | rfl
            · exact absurd h2 (by decide +kernel)
            · exact absurd h2 (by decide +kernel)
            · decide +kernel
            · decide +kernel
            · exact absurd rfl n3
            · exact absurd rfl n1
          rw [hb] at fin
          refine ⟨_, rfl, p, L, ns, n, 30, rfl, hP0, (by decide), (by decide), (by omega), fun a1 H1 a10 a11 hP1 b1 => ?_⟩
          refine ⟨_, _, rfl, rfl, _, rfl, p, L, ns, _, 60, rfl, hP1, (by decide), (by decide), (by omega), fun a2 H2 a20 a21 hP2 b2 => ?_⟩
          refine ⟨_, _, rfl, rfl, _, rfl, p, L, ns, _, 999, rfl, hP2, (by decide), (by decide), (by omega), fun a3 H3 a30 a31 hP3 b3 => ?_⟩
          refine ⟨_, _, rfl, rfl, (by show 5 ≤ sizeLine; decide), fun D hD => ?_⟩
          have nD : D ≠ p := hP3.lt_new hD
          refine ⟨_, rfl, p, L, ns, _, 5, rfl, hP3.new hD, (by decide), (by decide), (by omega), fun k H4 k0' k1' hP4 b4 => ?_⟩
          obtain ⟨v, e, hv⟩ := listAt (xs := [V.int (1 + a1), V.int (1 + a2), V.int (1 + a3), V.int 1, V.int 999]) k0' k1'
          refine ⟨D, _, _, v, rfl, rfl, SqL.of ((b4 D nD).trans upd_same), e, ?_⟩
          refine fin v H4 ?_ (hP4.up (by omega)) (((((k0.trans b1.kp).trans b2.kp).trans b3.kp).trans (Kp.new hD)).trans b4.kp)
          simp only [List.mem_cons, List.not_mem_nil, or_false] at hv
          rcases hv with rfl | rfl | rfl | rfl | rfl
          · exact ⟨_, rfl, (by show (1 : Int) ≤ 1 + a1; omega), (by show 1 + a1 ≤ 999; omega)⟩
          · exact ⟨_, rfl, (by show (1 : Int) ≤ 1 + a2; omega), (by show 1 + a2 ≤ 999; omega)⟩
          · exact ⟨_, rfl, (by show (1 : Int) ≤ 1 + a3; omega), (by show 1 + a3 ≤ 999; omega)⟩
          · exact ⟨_, rfl, (by decide), (by decide)⟩
          · exact ⟨_, rfl, (by decide), (by decide)⟩

/-! ### lines drawn -/
def WRD : List Str := ["a", "Word", "end.", "{n}", "{all}", "{name}", "don't;", "", "", Txt.mul "x" 23, "{n", "{{n}}", "{N} ~!", "word"]
theorem wrd_ok : ∀ y ∈ WRD, y.length ≤ 23 ∧ okS y := by decide +kernel
def spLineL : Sp := fun vs H Q _ => ∃ (p L : Addr) (ns : List Int) (n : Nat), vs = [.ref p] ∧ Pen H p L ns n ∧ n + 100 < 1000000 ∧ ∀ (z : Str) (H' : Hp), z.length ≤ 60 → okS z → Pen H' p L ns (n + 8) → Kp p H H' → Q (.str z) H'
theorem ok_lineL {f : Addr} {fd : FuncData} (F : FnP K "_law_line" slaw_line f fd) (T : Txt mg) (D_law_draw : Dn P w K mg base 1 "_law_draw" ["pen", "many"] spDraw) : FnOk P w K mg base CX0 2 f fd ["pen"] spLineL := by
  refine okN F sclaw_line (fun vs H Q E h => ?_) (fun cdv A outer s H vs Q E hr h => ?_)
  · obtain ⟨p, L, ns, n, rfl, _⟩ := h
    rfl
  · obtain ⟨p, L, ns, n, rfl, hP, hn, q⟩ := h
    refine ⟨_, (pss_cons (ps_set (i := 1) sclaw_line.nd rfl (Or.inr rfl) (pe_lst (pa_cons pe_str (pa_cons pe_str (pa_cons pe_str (pa_cons pe_str (pa_cons pe_str (pa_cons pe_str (pa_cons pe_str (pa_cons pe_str (pa_cons pe_str (pa_cons (pe_op op_mul_str pe_str pe_int) (pa_cons pe_str (pa_cons pe_str (pa_cons pe_str (pa_cons pe_str pa_nil))))))))))))))))
      (pss_cons (ps_set (i := 2) sclaw_line.nd rfl (Or.inl rfl) (pe_join pe_str (pe_lc (own := [("k", 3)]) (g := gName 3) (by rfl) sclaw_line.nd (pi_range1 rfl T.m_range (pa_cons (pe_dn D_law_draw (hr.mono (by decide)) rfl (pa_cons (pv 0) (pa_cons pe_int pa_nil))) pa_nil)) (blkOk_by (own := [("k", 3)]) (N := ["pen", "words", "line", "k"]) (sc := defScope slaw_line) (by decide +kernel)) (fun _ _ _ _ _ => (pg_name (i := 3) sclaw_line.nd rfl (Or.inl rfl))) (fun _ _ _ _ _ => pts_nil) (fun _ _ _ _ _ => (pe_ix (r := rIxL K) ix_list (pv 1) (pe_dn D_law_draw (hr.mono (by decide)) rfl (pa_cons (pv 0) (pa_cons pe_int pa_nil))) (fun _ _ => rfl))))))
      (pss_one (ps_ret (pe_slice sl_str (pv 2) po_none (po_some (pe_ix ix_list (pe_lst (pa_cons pe_int (pa_cons pe_int (pa_cons pe_int pa_nil)))) (pe_dn D_law_draw (hr.mono (by decide)) rfl (pa_cons (pv 0) (pa_cons pe_int pa_nil))) (fun _ _ => rfl)))))))), ?_⟩
    refine ⟨("x" : Str), 23, rfl, rfl, mulOk (by decide +kernel) (by decide) (by decide), (by show 14 ≤ sizeLine; decide), fun W hW => ?_⟩
    have nW : W ≠ p := hP.lt_new hW
    have xW : (upd H W (.lst (WRD.map V.str))) W = some (.lst (WRD.map V.str)) := upd_same
    have hP0 : Pen (upd H W (.lst (WRD.map V.str))) p L ns n := hP.new hW
    have k0 : Kp p H (upd H W (.lst (WRD.map V.str))) := Kp.new hW
    revert xW hP0 k0
    show _ → _ → _ → tSeq _ _ _ _ (upd H W (.lst (WRD.map V.str)))
    generalize upd H W (.lst (WRD.map V.str)) = H0
    intro xW hP0 k0
    refine ⟨⟨_, rfl⟩, _, rfl, p, L, ns, n, 6, rfl, hP0, (by decide), (by decide), (by omega), fun k2 H2 k20 k21 hP2 b2 => ?_⟩
    refine ⟨k2, rfl, (by omega), (by omega), fun D hD => ?_⟩
    have nD : D ≠ p := hP2.lt_new hD
    have kD : Kp p H (upd H2 D (.lst [])) := (k0.trans b2.kp).trans (Kp.new hD)
    have x2 : H2 W = some (.lst (WRD.map V.str)) := (b2 W nW).trans xW
    have nWD : W ≠ D := ne_of_none x2 hD
    refine lc_range (lo := 0) (n := k2.toNat) (fun i H3 => ∃ ys : List Str, ys.length = i ∧ (∀ y ∈ ys, y.length ≤ 23 ∧ okS y) ∧ H3 D = some (.lst (ys.map V.str)) ∧ Pen H3 p L ns (n + 1 + i) ∧ Kp p H H3 ∧ H3 W = some (.lst (WRD.map V.str))) ?_ ?_ ?_
    · exact ⟨[], rfl, fun y hy => (nomatch hy), upd_same, hP2.new hD, kD, (upd_ne nWD).trans x2⟩
    · rintro i H3 hi ⟨ys, hl, h1, hD3, hP3, k3, x3⟩
      refine ⟨rfl, ?_⟩
      refine ⟨_, rfl, _, rfl, p, L, ns, _, 14, rfl, hP3, (by decide), (by decide), (by omega), fun k4 H4 k40 k41 hP4 b4 => ?_⟩
      obtain ⟨v, e4, hv⟩ := listAt (xs := WRD.map V.str) k40 k41
      obtain ⟨y, my, rfl⟩ := List.mem_map.mp hv
      refine ⟨W, _, _, _, rfl, rfl, SqL.of ((b4 W nW).trans x3), e4, ?_⟩
      have hD4 : H4 D = some (.lst (ys.map V.str)) := (b4 D nD).trans hD3
      have hP5 : Pen (upd H4 D (.lst (ys.map V.str ++ [V.str y]))) p L ns (n + 1 + i + 1) := hP4.keep (upd_ne nD.symm) (upd_ne (ne_of_none hP2.ls hD))
      refine ⟨_, hD4, ?_, ys ++ [y], ?_, ?_, ?_, hP5.up (by omega), ?_, ?_⟩
      · rw [List.length_map, hl]
        exact small1000 (by omega)
      · rw [List.length_append, hl] <;> rfl
      · intro x hx
        rcases List.mem_append.mp hx with hx | hx
        · exact h1 x hx
        · rw [List.mem_singleton.mp hx]
          exact wrd_ok y my
      · rw [upd_same, List.map_append] <;> rfl
      · intro b o e nb
        rw [upd_ne (ne_of_none ((k0.trans b2.kp) b o e nb) hD)]
        exact b4.kp b o (k3 b o e nb) nb
      · rw [upd_ne nWD]
        exact (b4 W nW).trans x3
    · rintro H3 ⟨ys, hl, h1, hD3, hP3, k3, x3⟩
      have hs := sum_le (m := 23) fun y hy => (h1 y hy).1
      refine ⟨(" " : Str), D, ys, rfl, rfl, .inl (SqL.of hD3), ?_, ?_⟩
      · rw [show (" " : Str).length = 1 by decide +kernel]
        omega
      have hj := StrLaws.join_length_le (" " : Str) ys
      rw [show (" " : Str).length = 1 by decide +kernel] at hj
      have jl : (Txt.join (" " : Str) ys).length ≤ 1000 := by
        rw [show Txt.join (" " : Str) ys = Str.join (" " : Str) ys from StrLaws.glued_eq_join (" " : Str) ys]
        omega
      have js : okS (Txt.join (" " : Str) ys) := okS_join (by decide +kernel) fun y hy => (h1 y hy).2
      generalize Txt.join (" " : Str) ys = z at jl js
      refine ⟨_, rfl, (by show 3 ≤ sizeLine; decide), fun M hM => ?_⟩
      have nM : M ≠ p := hP3.lt_new hM
      refine ⟨_, rfl, p, L, ns, _, 3, rfl, hP3.new hM, (by decide), (by decide), (by omega), fun k5 H5 k50 k51 hP5 b5 => ?_⟩
      obtain ⟨v, e5, hv⟩ := listAt (xs := [V.int 60, V.int 60, V.int 7]) k50 k51
      refine ⟨M, _, _, v, rfl, rfl, SqL.of ((b5 M nM).trans upd_same), e5, ?_⟩
      obtain ⟨m, rfl, hm⟩ : ∃ m : Nat, v = .int (m : Int) ∧ m ≤ 60 := by
        simp only [List.mem_cons, List.not_mem_nil, or_false] at hv
        rcases hv with rfl | rfl | rfl
        · exact ⟨60, rfl, by decide⟩
        · exact ⟨60, rfl, by decide⟩
        · exact ⟨7, rfl, by decide⟩
      refine ⟨_, rfl, z, rfl, Nat.le_of_lt (small1000 jl), ?_⟩
      exact q _ H5 (Nat.le_trans cut_le hm) (okS_cut js) (hP5.up (by omega)) ((k3.trans (Kp.new hM)).trans b5.kp)

def spLinesL (K : PySem.W.Frag) : Sp := fun vs H Q _ => ∃ (p L : Addr) (ns : List Int) (n : Nat), vs = [.ref p] ∧ Pen H p L ns n ∧ n + 200 < 1000000 ∧ ∀ (v : V) (ls : List Str) (H' : Hp), Dp K H' v (.tuple (ls.map .str)) → goodL ls → Pen H' p L ns (n + 110) → Kp p H H' → Q v H'
theorem ok_linesL {f : Addr} {fd : FuncData} (F : FnP K "_law_lines" slaw_lines f fd) (T : Txt mg) (D_law_draw : Dn P w K mg base 1 "_law_draw" ["pen", "many"] spDraw) (D_law_line : Dn P w K mg base 2 "_law_line" ["pen"] spLineL) : FnOk P w K mg base CX0 3 f fd ["pen"] (spLinesL K) := by
  refine okN F sclaw_lines (fun vs H Q E h => ?_) (fun cdv A outer s H vs Q E hr h => ?_)
  · obtain ⟨p, L, ns, n, rfl, _⟩ := h
    rfl
  · obtain ⟨p, L, ns, n, rfl, hP, hn, q⟩ := h
    refine ⟨_, (pss_cons (ps_set (i := 1) sclaw_lines.nd rfl (Or.inr rfl) (pe_ix ix_list (pe_lst (pa_cons (pe_dn D_law_draw (hr.mono (by decide)) rfl (pa_cons (pv 0) (pa_cons pe_int pa_nil))) (pa_cons (pe_dn D_law_draw (hr.mono (by decide)) rfl (pa_cons (pv 0) (pa_cons pe_int pa_nil))) (pa_cons pe_int pa_nil)))) (pe_dn D_law_draw (hr.mono (by decide)) rfl (pa_cons (pv 0) (pa_cons pe_int pa_nil))) (fun _ _ => rfl)))
      (pss_one (ps_ret (pe_callTy call_tuple_of (by rfl) T.m_tuple (by decide +kernel) (pa_cons (pe_lc (own := [("k", 2)]) (g := gName 2) (by rfl) sclaw_lines.nd (pi_range1 rfl T.m_range (pa_cons (pv 1) pa_nil)) (blkOk_by (own := [("k", 2)]) (N := ["pen", "many", "k"]) (sc := defScope slaw_lines) (by decide +kernel)) (fun _ _ _ _ _ => (pg_name (i := 2) sclaw_lines.nd rfl (Or.inl rfl))) (fun _ _ _ _ _ => pts_nil) (fun _ _ _ _ _ => (pe_slice sl_str (pe_dn D_law_line (hr.mono (by decide)) rfl (pa_cons (pv 0) pa_nil)) po_none (po_some (pe_ix (r := rIxL K) ix_list (pe_lst (pa_cons pe_int (pa_cons pe_int pa_nil))) (pe_callTy call_int1 (by rfl) T.m_int (by decide +kernel) (pa_cons (pe_cmpR op_gt (pv 1) pe_int (nomark _)) pa_nil)) (fun _ _ => rfl)))))) pa_nil))))), ?_⟩
    refine ⟨_, rfl, p, L, ns, n, 4, rfl, hP, (by decide), (by decide), (by omega), fun a1 H1 a10 a11 hP1 b1 => ?_⟩
    refine ⟨_, rfl, p, L, ns, _, 4, rfl, hP1, (by decide), (by decide), (by omega), fun a2 H2 a20 a21 hP2 b2 => ?_⟩
    refine ⟨(by show 3 ≤ sizeLine; decide), fun M hM => ?_⟩
    have nM : M ≠ p := hP2.lt_new hM
    refine ⟨_, rfl, p, L, ns, _, 3, rfl, hP2.new hM, (by decide), (by decide), (by omega), fun k3 H3 k30 k31 hP3 b3 => ?_⟩
    obtain ⟨v, e3, hv⟩ := listAt (xs := [V.int a1, V.int a2, V.int 12]) k30 k31
    refine ⟨M, _, _, v, rfl, rfl, SqL.of ((b3 M nM).trans upd_same), e3, ?_⟩
    obtain ⟨many, rfl, m0, m1⟩ : ∃ m : Int, v = V.int m ∧ 0 ≤ m ∧ m ≤ 12 := by
      simp only [List.mem_cons, List.not_mem_nil, or_false] at hv
      rcases hv with rfl | rfl | rfl
      · exact ⟨_, rfl, a10, by omega⟩
      · exact ⟨_, rfl, a20, by omega⟩
      · exact ⟨_, rfl, by decide, by decide⟩
    have k3 : Kp p H H3 := ((b1.kp.trans b2.kp).trans (Kp.new hM)).trans b3.kp
    refine ⟨_, rfl, many, rfl, (by omega), (by omega), fun D hD => ?_⟩
    have nD : D ≠ p := hP3.lt_new hD
    refine lc_range (lo := 0) (n := many.toNat) (fun i H4 => ∃ ys : List Str, ys.length = i ∧ (∀ y ∈ ys, y.length ≤ 60 ∧ okS y) ∧ H4 D = some (.lst (ys.map V.str)) ∧ Pen H4 p L ns (n + 3 + 8 * i) ∧ Kp p H H4) ?_ ?_ ?_
    · exact ⟨[], rfl, fun y hy => (nomatch hy), upd_same, hP3.new hD, k3.trans (Kp.new hD)⟩
    · rintro i H4 hi ⟨ys, hl, h1, hD4, hP4, k4⟩
      refine ⟨rfl, ?_⟩
      refine ⟨_, rfl, p, L, ns, _, rfl, hP4, (by omega), fun z H5 hz zs hP5 k5 => ?_⟩
      have hD5 := k5 _ _ hD4 nD
      refine ⟨(by show 2 ≤ sizeLine; decide), fun M2 hM2 => ?_⟩
      have n2 : D ≠ M2 := ne_of_none hD5 hM2
      have k6 : Kp p H (upd H5 M2 (.lst [V.int 60, V.int 12])) := (k4.trans k5).trans (Kp.new hM2)
      have hP6 := hP5.new (o := .lst [V.int 60, V.int 12]) hM2
      have x6 : (upd H5 M2 (.lst [V.int 60, V.int 12])) M2 = some (.lst [V.int 60, V.int 12]) := upd_same
      have hD6 : (upd H5 M2 (.lst [V.int 60, V.int 12])) D = _ := (upd_ne n2).trans hD5
      revert k6 hP6 x6 hD6
      generalize upd H5 M2 (.lst [V.int 60, V.int 12]) = H6
      intro k6 hP6 x6 hD6
      refine ⟨_, rfl, _, _, rfl, rfl, .inr ⟨decide (3 < many), rfl, ?_⟩⟩
      obtain ⟨m, em, hm⟩ : ∃ m : Nat, atI [V.int 60, V.int 12] (if decide (3 < many) = true then 1 else 0) = some (.int (m : Int)) ∧ m ≤ 60 := by
        cases decide (3 < many) with
        | true => exact ⟨12, rfl, by decide⟩
        | false => exact ⟨60, rfl, by decide⟩
      refine ⟨M2, _, _, _, rfl, rfl, SqL.of x6, em, _, rfl, z, rfl, Nat.le_of_lt (small1000 (by omega)), ?_⟩
      have hP7 : Pen (upd H6 D (.lst (ys.map V.str ++ [V.str (cutS z none (some (m : Int)))]))) p L ns (n + 3 + 8 * i + 8) := hP6.keep (upd_ne nD.symm) (upd_ne (ne_of_none hP3.ls hD))
      refine ⟨_, hD6, ?_, ys ++ [cutS z none (some (m : Int))], ?_, ?_, ?_, hP7.up (by omega), ?_⟩
      · rw [List.length_map, hl]
        exact small1000 (by omega)
      · rw [List.length_append, hl] <;> rfl
      · intro x hx
        rcases List.mem_append.mp hx with hx | hx
        · exact h1 x hx
        · rw [List.mem_singleton.mp hx]
          exact ⟨Nat.le_trans cut_le hm, okS_cut zs⟩
      · rw [upd_same, List.map_append] <;> rfl
      · intro b o e nb
        rw [upd_ne (ne_of_none (k3 b o e nb) hD)]
        exact k6 b o e nb
    · rintro H4 ⟨ys, hl, h1, hD4, hP4, k4⟩
      refine ⟨D, _, rfl, .inl ⟨SqL.of hD4, fun g hg => ?_⟩⟩
      have xg : (upd H4 g (.tup (ys.map V.str))) g = some (.tup (ys.map V.str)) := upd_same
      exact q _ ys _ (.tup (SqT.of xg) (dpAll_strs ys)) ⟨by omega, h1⟩ ((hP4.new hg).up (by omega)) (k4.trans (Kp.new hg))

/-! ### a place drawn -/
def spPlaceL (K : PySem.W.Frag) : Sp := fun vs H Q _ => ∃ (p L : Addr) (ns : List Int) (n : Nat) (nm : Str), vs = [.ref p, .str nm] ∧ Pen H p L ns n ∧ n + 300 < 1000000 ∧ ∀ (v : V) (pl : PlM) (H' : Hp), Dp K H' v pl.d → pl.name = nm → OkPl pl → Pen H' p L ns (n + 150) → Kp p H H' → Q v H'
theorem ok_placeL {f : Addr} {fd : FuncData} (F : FnP K "_law_place" slaw_place f fd) (T : Txt mg) (D_law_draw : Dn P w K mg base 1 "_law_draw" ["pen", "many"] spDraw) (D_law_lines : Dn P w K mg base 3 "_law_lines" ["pen"] (spLinesL K)) (D_law_worth : Dn P w K mg base 2 "_law_worth" ["pen", "trait"] (spWorthL K)) (D_law_traits : Dn P w K mg base 1 "_law_traits" [] spTraits) :
    FnOk P w K mg base CX0 4 f fd ["pen", "name"] (spPlaceL K) := by
  refine okN F sclaw_place (fun vs H Q E h => ?_) (fun cdv A outer s H vs Q E hr h => ?_)
  · obtain ⟨p, L, ns, n, nm, rfl, _⟩ := h
    rfl
  · obtain ⟨p, L, ns, n, nm, rfl, hP, hn, q⟩ := h
    refine ⟨_, (pss_cons (ps_set (i := 2) sclaw_place.nd rfl (Or.inl rfl) (pe_callTy call_tuple_of (by rfl) T.m_tuple (by decide +kernel) (pa_cons (pe_lc (own := [("trait", 3)]) (g := gName 3) (by rfl) sclaw_place.nd (pi_list (pe_dn0 D_law_traits (hr.mono (by decide)) rfl)) (blkOk_by (own := [("trait", 3)]) (N := ["pen", "name", "settings", "trait"]) (sc := defScope slaw_place) (by decide +kernel)) (fun _ _ _ _ _ => (pg_name (i := 3) sclaw_place.nd rfl (Or.inl rfl))) (fun _ _ _ _ _ => (pts_one (pt_cmpR op_eq (pe_dn D_law_draw (hr.mono (by decide)) rfl (pa_cons (pv 0) (pa_cons pe_int pa_nil))) pe_int (nomark _)))) (fun _ _ _ _ _ => (pe_tup (pa_cons (pv 3) (pa_cons (pe_dn D_law_worth (hr.mono (by decide)) rfl (pa_cons (pv 0) (pa_cons (pv 3) pa_nil))) pa_nil))))) pa_nil)))
      (pss_one (ps_ret (pe_tup (pa_cons (pv 1) (pa_cons (pv 2) (pa_cons (pe_ix ix_list (pe_lst (pa_cons pe_non (pa_cons pe_non (pa_cons (pe_dn D_law_lines (hr.mono (by decide)) rfl (pa_cons (pv 0) pa_nil)) pa_nil)))) (pe_dn D_law_draw (hr.mono (by decide)) rfl (pa_cons (pv 0) (pa_cons pe_int pa_nil))) (fun _ _ => rfl)) pa_nil))))))), ?_⟩
    refine ⟨rfl, fun c H1 xc s1 nc => ?_⟩
    have hP1 := hP.keep' s1
    have n_c : c ≠ p := hP.lt_new nc
    refine ⟨c, rfl, ⟨_, SqL.of xc⟩, fun D hD => ?_⟩
    have nD : D ≠ p := hP1.lt_new hD
    have ncD : c ≠ D := ne_of_none xc hD
    refine lc_list (K := K) (a := c) (xs := TRS.map V.str) (fun i H4 => ∃ (ss : List (Str × PyData)) (xs : List V), (ss.map (·.1)).Sublist (TRS.take i) ∧ (∀ s ∈ ss, wOk s.1 s.2 = true) ∧ DpAll K H4 xs (ss.map setD) ∧ H4 D = some (.lst xs) ∧ Pen H4 p L ns (n + 5 * i) ∧ Kp p H H4 ∧ H4 c = some (.lst (TRS.map V.str))) ?_ ?_ ?_ ?_
    · exact ⟨[], [], List.nil_sublist _, fun s hs => (nomatch hs), .nil, upd_same, hP1.new hD, (sameKp s1).trans (Kp.new hD), (upd_ne ncD).trans xc⟩
    · rintro i H4 hi ⟨ss, xs, _, _, _, _, _, _, x4⟩
      exact SqL.of x4
    · rintro i x H4 hx ⟨ss, xs, h1, h2, h3, h4, hP4, k4, x4⟩
      obtain ⟨z, hz, rfl⟩ : ∃ z, TRS[i]? = some z ∧ x = V.str z := by
        rw [List.getElem?_map] at hx
        cases e : TRS[i]? with
        | none =>
          rw [e] at hx
          cases hx
        | some z =>
          rw [e] at hx
          exact ⟨z, rfl, (Option.some.inj hx).symm⟩
      have mz : z ∈ TRS := List.mem_of_getElem? hz
      have hi : i < 6 := (List.getElem?_eq_some_iff.mp hz).1
      refine ⟨rfl, ?_⟩
      refine ⟨_, rfl, p, L, ns, _, 3, rfl, hP4, (by decide), (by decide), (by omega), fun k H5 k0 k1 hP5 b5 => ?_⟩
      have kt5 : KT K H4 H5 := KT.pen hP4 b5.kp
      have h4' : H5 D = some (.lst xs) := (b5 D nD).trans h4
      have x5 : H5 c = _ := (b5 c n_c).trans x4
      have dn5 : noLAll (ss.map setD) = true := noL_all fun d hd => by
        obtain ⟨s, hs, rfl⟩ := List.mem_map.mp hd
        unfold setD
        simp only [noL, noLAll, flat_noL (wOk_flat (h2 s hs)), Bool.and_self]
      refine ⟨rfl, _, rfl, iteB (fun _ => ?_) fun _ => ?_⟩
      · refine ⟨_, rfl, _, rfl, _, rfl, p, L, ns, _, z, rfl, mz, hP5, (by omega), fun v d H6 hd hw hP6 k6 => ?_⟩
        have kt6 : KT K H5 H6 := KT.pen hP5 k6
        have h6 := k6 _ _ h4' nD
        refine ⟨(by show 2 ≤ sizeLine; decide), fun t ht => ?_⟩
        have nt : D ≠ t := ne_of_none h6 ht
        have s7 : Same H6 (upd H6 t (.tup [V.str z, v])) := same_new ht
        have x7 : (upd H6 t (.tup [V.str z, v])) t = some (.tup [V.str z, v]) := upd_same
        have h7 : (upd H6 t (.tup [V.str z, v])) D = some (.lst xs) := (upd_ne nt).trans h6
        have hP7 := hP6.new (o := .tup [V.str z, v]) ht
        have c7 := s7 _ _ (k6 _ _ x5 n_c)
        have k7 : Kp p H (upd H6 t (.tup [V.str z, v])) := ((k4.trans b5.kp).trans k6).trans (sameKp s7)
        have d7 : Dp K (upd H6 t (.tup [V.str z, v])) (.ref t) (setD (z, d)) := .tup (SqT.of x7) (.cons (.str z) (.cons (dpT_keep (KT.same s7) hd (flat_noL (wOk_flat hw))) .nil))
        have a7 : DpAll K (upd H6 t (.tup [V.str z, v])) xs (ss.map setD) := dpTAll_keep ((kt5.trans kt6).trans (KT.same s7)) h3 dn5
        revert x7 h7 hP7 c7 k7 d7 a7
        generalize upd H6 t (.tup [V.str z, v]) = H7
        intro x7 h7 hP7 c7 k7 d7 a7
        have n8 : noL (setD (z, d)) = true := by
          unfold setD
          simp only [noL, noLAll, flat_noL (wOk_flat hw), Bool.and_self]
        have hP8 : Pen (upd H7 D (.lst (xs ++ [V.ref t]))) p L ns (n + 5 * i + 1 + 4) := hP7.keep (upd_ne nD.symm) (upd_ne (ne_of_none hP1.ls hD))
        · refine ⟨xs, h7, ?_, ss ++ [(z, d)], xs ++ [.ref t], ?_, ?_, ?_, upd_same, hP8.up (by omega), ?_, ?_⟩
          · have l1 := dpAll_len a7
            have l2 := h1.length_le
            rw [List.length_map, List.length_take] at l2
            rw [List.length_map] at l1
            exact small1000 (by omega)
          · rw [List.map_append, take_more hz]
            exact h1.append (List.Sublist.refl _)
          · intro s hs
            rcases List.mem_append.mp hs with hs | hs
            · exact h2 s hs
            · rw [List.mem_singleton.mp hs]
              exact hw
          · rw [List.map_append]
            exact dpTAll_keep (KT.put h7) (dpAll_app a7 (.cons d7 .nil)) (by
              refine noL_all fun e he => ?_
              rcases List.mem_append.mp he with he | he
              · obtain ⟨s, hs, rfl⟩ := List.mem_map.mp he
                unfold setD
                simp only [noL, noLAll, flat_noL (wOk_flat (h2 s hs)), Bool.and_self]
              · rw [List.mem_singleton.mp he]
                exact n8)
          · intro b o e nb
            rw [upd_ne (ne_of_none (s1 b o e) hD)]
            exact k7 b o e nb
          · exact (upd_ne ncD).trans c7
      · refine ⟨ss, xs, ?_, h2, dpTAll_keep kt5 h3 dn5, h4', hP5.up (by omega), k4.trans b5.kp, x5⟩
        rw [take_more hz]
        exact h1.trans (List.sublist_append_left _ _)
    · rintro H4 ⟨ss, xs, h1, h2, h3, h4, hP4, k4, x4⟩
      have hP4 : Pen H4 p L ns (n + 30) := hP4.up (by show n + 5 * 6 ≤ _; omega)
      have dn4 : noLAll (ss.map setD) = true := noL_all fun d hd => by
        obtain ⟨s, hs, rfl⟩ := List.mem_map.mp hd
        unfold setD
        simp only [noL, noLAll, flat_noL (wOk_flat (h2 s hs)), Bool.and_self]
      have sub : (ss.map (·.1)).Sublist TRS := h1.trans (List.take_sublist _ _)
      have okp : ∀ t, (∀ ls, t = some ls → goodL ls) → OkPl ⟨nm, ss, t⟩ := fun t ht => ⟨fun s hs => ⟨sub.subset (List.mem_map_of_mem hs), h2 s hs⟩, sub.nodup (by decide +kernel), ht⟩
      refine ⟨D, _, rfl, .inl ⟨SqL.of h4, fun g hg => ?_⟩⟩
      have s5 : Same H4 (upd H4 g (.tup xs)) := same_new hg
      have g5 : Dp K (upd H4 g (.tup xs)) (.ref g) (.tuple (ss.map setD)) := .tup (SqT.of upd_same) (dpTAll_keep (KT.same s5) h3 dn4)
      have hP5 := hP4.new (o := .tup xs) hg
      have k5 : Kp p H (upd H4 g (.tup xs)) := k4.trans (sameKp s5)
      revert g5 hP5 k5
      generalize upd H4 g (.tup xs) = H5
      intro g5 hP5 k5
      refine ⟨_, rfl, _, rfl, _, rfl, p, L, ns, _, rfl, hP5, (by omega), fun v ls H6 hd hl hP6 k6 => ?_⟩
      have g6 := dpT_keep (KT.pen hP5 k6) g5 (by simp only [noL, dn4])
      refine ⟨(by show 3 ≤ sizeLine; decide), fun M hM => ?_⟩
      have nM : M ≠ p := hP6.lt_new hM
      refine ⟨_, rfl, p, L, ns, _, 3, rfl, hP6.new hM, (by decide), (by decide), (by omega), fun k7 H7 k70 k71 hP7 b7 => ?_⟩
      obtain ⟨u, e7, hu⟩ := listAt (xs := [V.non, V.non, v]) k70 k71
      refine ⟨M, _, _, u, rfl, rfl, SqL.of ((b7 M nM).trans upd_same), e7, (by show 3 ≤ sizeLine; decide), fun t ht => ?_⟩
      have kt7 : KT K H6 H7 := (KT.same (same_new (o := .lst [V.non, V.non, v]) hM)).trans (KT.pen (hP6.new hM) b7.kp)
      have kt8 : KT K H6 (upd H7 t (.tup [V.str nm, V.ref g, u])) := kt7.trans (KT.same (same_new ht))
      have g8 := dpT_keep kt8 g6 (by simp only [noL, dn4])
      have hls : noL (.tuple (ls.map .str)) = true := by
        simp only [noL]
        refine noL_all fun d hd => ?_
        obtain ⟨z, _, rfl⟩ := List.mem_map.mp hd
        simp only [noL]
      have v8 := dpT_keep kt8 hd hls
      have xt : (upd H7 t (.tup [V.str nm, V.ref g, u])) t = some (.tup [V.str nm, V.ref g, u]) := upd_same
      have hP8 : Pen (upd H7 t (.tup [V.str nm, V.ref g, u])) p L ns (n + 150) := (hP7.new ht).up (by omega)
      have k8 : Kp p H (upd H7 t (.tup [V.str nm, V.ref g, u])) := (((k5.trans k6).trans (Kp.new hM)).trans b7.kp).trans (Kp.new ht)
      have fin : ∀ o : Option (List Str), Dp K (upd H7 t (.tup [V.str nm, V.ref g, u])) u (match o with
        | none => .none
        | some l => .tuple (l.map .str)) → (∀ ls, o = some ls → goodL ls) → Q (.ref t) (upd H7 t (.tup [V.str nm, V.ref g, u])) := fun o hu ho =>
        q _ ⟨nm, ss, o⟩ _ (.tup (SqT.of xt) (.cons (.str nm) (.cons g8 (.cons hu .nil)))) rfl (okp o ho) hP8 k8
      simp only [List.mem_cons, List.not_mem_nil, or_false] at hu
      rcases hu with rfl | rfl | rfl
      · exact fin none .non fun _ e => nomatch e
      · exact fin none .non fun _ e => nomatch e
      · exact fin (some ls) v8 fun l e => by
          cases e
          exact hl

/-! ### names drawn -/
def spNames : Sp := fun vs H Q _ => ∃ (p L : Addr) (ns : List Int) (n many : Nat), vs = [.ref p, .int many] ∧ many ≤ 40 ∧ Pen H p L ns n ∧ n + 100 < 1000000 ∧ ∀ (c : Addr) (zs : List Str) (H' : Hp), H' c = some (.lst (zs.map V.str)) → zs.length = many → zs.Nodup → (∀ z ∈ zs, nameB z = true) → c ≠ p → H c = none → Pen H' p L ns (n + many + 6) → Kp p H H' → Q (.ref c) H'
theorem ok_names {f : Addr} {fd : FuncData} (F : FnP K "_law_names" slaw_names f fd) (T : Txt mg) (D_law_draw : Dn P w K mg base 1 "_law_draw" ["pen", "many"] spDraw) : FnOk P w K mg base CX0 2 f fd ["pen", "many"] spNames := by
  refine okN F sclaw_names (fun vs H Q E h => ?_) (fun cdv A outer s H vs Q E hr h => ?_)
  · obtain ⟨p, L, ns, n, many, rfl, _⟩ := h
    rfl
  · obtain ⟨p, L, ns, n, many, rfl, hm, hP, hn, q⟩ := h
    refine ⟨_, (pss_cons (ps_par (i := 2) (j := 3) (by rfl) sclaw_names.nd rfl rfl (by decide) rfl rfl (pa_cons pe_str (pa_cons (pe_lst pa_nil) pa_nil)) (by rfl))
      (pss_cons (ps_par (i := 4) (j := 5) (by rfl) sclaw_names.nd rfl rfl (by decide) rfl rfl (pa_cons (pe_op op_add (pe_ix ix_list (pe_lst (pa_cons pe_int (pa_cons pe_int (pa_cons pe_int (pa_cons pe_int (pa_cons pe_int (pa_cons pe_int (pa_cons pe_int (pa_cons pe_int pa_nil))))))))) (pe_dn D_law_draw (hr.mono (by decide)) rfl (pa_cons (pv 0) (pa_cons pe_int pa_nil))) (fun _ _ => rfl)) (pe_op op_mul pe_int (pe_dn D_law_draw (hr.mono (by decide)) rfl (pa_cons (pv 0) (pa_cons pe_int pa_nil))))) (pa_cons (pe_dn D_law_draw (hr.mono (by decide)) rfl (pa_cons (pv 0) (pa_cons pe_int pa_nil))) pa_nil)) (by rfl))
      (pss_cons (ps_for PassesOwn.never rfl (pi_range1 rfl T.m_range (pa_cons (pv 1) pa_nil)) (pg_name (i := 6) sclaw_names.nd rfl (Or.inl rfl)) (pss_cons (ps_set (i := 7) sclaw_names.nd rfl (Or.inl rfl) (pe_ix ix_list (pe_lst (pa_cons pe_str (pa_cons pe_str (pa_cons pe_str (pa_cons pe_str (pa_cons pe_str (pa_cons pe_str (pa_cons pe_str pa_nil)))))))) (pe_dn D_law_draw (hr.mono (by decide)) rfl (pa_cons (pv 0) (pa_cons pe_int pa_nil))) (fun _ _ => rfl)))
      (pss_cons (ps_expr (pe_bm PySem.F.plainAttrs_list PySem.F.slot_list_append PySem.F.type_list_append mt_append (pv 3) (pa_cons (pe_op op_add_str (pe_op op_add_str (pv 7) (pe_ix ix_str (pv 2) (pe_op op_fdiv (pv 5) pe_int) (fun _ _ => rfl))) (pe_ix ix_str (pv 2) (pe_op op_mod (pv 5) pe_int) (fun _ _ => rfl))) pa_nil)))
      (pss_one (ps_set (i := 5) sclaw_names.nd rfl (Or.inl rfl) (pe_op op_mod (pe_op op_add (pv 5) (pv 4)) pe_int))))))
      (pss_cons (ps_if (PW.pt (pw_and (pt_cmpR op_gt (pv 1) pe_int (nomark _)) (pw_and1 (pt_cmpR op_eq (pe_dn D_law_draw (hr.mono (by decide)) rfl (pa_cons (pv 0) (pa_cons pe_int pa_nil))) pe_int (nomark _))))) (pss_one (ps_asg (pe_ix ix_str (pv 2) (pe_dn D_law_draw (hr.mono (by decide)) rfl (pa_cons (pv 0) (pa_cons pe_int pa_nil))) (fun _ _ => rfl)) (pg_sub (pv 3) (pe_dn D_law_draw (hr.mono (by decide)) rfl (pa_cons (pv 0) (pa_cons (pv 1) pa_nil))) set_list))) pss_nil)
      (pss_one (ps_ret (pv 3))))))), ?_⟩
    refine ⟨(by show 0 ≤ sizeLine; decide), fun c hc => ⟨_, _, rfl, ?_⟩⟩
    have n_c : c ≠ p := hP.lt_new hc
    have x0 : (upd H c (.lst [])) c = some (.lst []) := upd_same
    have hP0 := hP.new (o := .lst []) hc
    have k0 : Kp p H (upd H c (.lst [])) := Kp.new hc
    revert x0 hP0 k0
    generalize upd H c (.lst []) = H0
    intro x0 hP0 k0
    refine ⟨(by show 8 ≤ sizeLine; decide), fun M hM => ?_⟩
    have nM : M ≠ p := hP0.lt_new hM
    have ncM : c ≠ M := ne_of_none x0 hM
    refine ⟨_, rfl, p, L, ns, n, 8, rfl, hP0.new hM, (by decide), (by decide), (by omega), fun k1 H1 k10 k11 hP1 b1 => ?_⟩
    obtain ⟨v, e1, hv⟩ := listAt (xs := [V.int 1, V.int 3, V.int 5, V.int 7, V.int 9, V.int 11, V.int 15, V.int 17]) k10 k11
    obtain ⟨a, rfl, ha⟩ : ∃ a : Nat, v = .int (a : Int) ∧ a ∈ STP := by
      simp only [List.mem_cons, List.not_mem_nil, or_false] at hv
      rcases hv with rfl | rfl | rfl | rfl | rfl | rfl | rfl | rfl <;> exact ⟨_, rfl, by decide⟩
    have a17 : a ≤ 17 := by
      simp only [STP, List.mem_cons, List.not_mem_nil, or_false] at ha
      omega
    refine ⟨M, _, _, _, rfl, rfl, SqL.of ((b1 M nM).trans upd_same), e1, ?_⟩
    refine ⟨_, rfl, p, L, ns, _, 13, rfl, hP1, (by decide), (by decide), (by omega), fun k2 H2 k20 k21 hP2 b2 => ?_⟩
    obtain ⟨b, rfl⟩ : ∃ b : Nat, k2 = (b : Int) := ⟨_, (Int.toNat_of_nonneg k20).symm⟩
    refine ⟨_, _, rfl, rfl, .inl ⟨by omega, by omega⟩, _, _, rfl, rfl, ?_⟩
    refine ⟨_, rfl, p, L, ns, _, 676, rfl, hP2, (by decide), (by decide), (by omega), fun k3 H3 k30 k31 hP3 b3 => ?_⟩
    obtain ⟨c0, rfl⟩ : ∃ c0 : Nat, k3 = (c0 : Int) := ⟨_, (Int.toNat_of_nonneg k30).symm⟩
    refine ⟨_, _, rfl, ?_⟩
    have x3 : H3 c = some (.lst []) := (b3 c n_c).trans ((b2 c n_c).trans ((b1 c n_c).trans ((upd_ne ncM).trans x0)))
    have k3' : Kp p H H3 := (((k0.trans (Kp.new hM)).trans b1.kp).trans b2.kp).trans b3.kp
    refine ⟨_, rfl, (many : Int), rfl, (by omega), (by omega), ?_⟩
    refine for_range (lo := 0) (n := (many : Int).toNat) (fun i σ H4 => ∃ (v6 v7 : Option V) (zs : List Str), σ = [some (.ref p), some (.int (many : Int)), some (.str LETS), some (.ref c), some (.int ((a : Int) + 26 * (b : Int))), some (.int ((nth c0 (a + 26 * b) i : Nat) : Int)), v6, v7] ∧
      H4 c = some (.lst (zs.map V.str)) ∧ zs.length = i ∧ zs.map code2 = (List.range i).map (nth c0 (a + 26 * b)) ∧ (∀ z ∈ zs, nameB z = true ∧ 2 ≤ z.length) ∧ Pen H4 p L ns (n + 3 + i) ∧ Kp p H H4) ?_ ?_ ?_
    · refine ⟨none, none, [], ?_, x3, rfl, rfl, fun z hz => (nomatch hz), hP3, k3'⟩
      have e0 : nth c0 (a + 26 * b) 0 = c0 := by
        unfold nth
        rw [Nat.zero_mul, Nat.add_zero]
        exact Nat.mod_eq_of_lt (by omega)
      rw [e0] <;> rfl
    · rintro i σ H4 hi ⟨v6, v7, zs, rfl, x4, hl, hc2, hz, hP4, k4⟩
      have hcode : nth c0 (a + 26 * b) i < 676 := Nat.mod_lt _ (by decide)
      have hnext : nth c0 (a + 26 * b) (i + 1) = (nth c0 (a + 26 * b) i + (a + 26 * b)) % 676 := by
        unfold nth
        rw [Nat.succ_mul]
        omega
      generalize hm' : nth c0 (a + 26 * b) i = m at hcode hnext
      refine ⟨(by show 7 ≤ sizeLine; decide), fun B hB => ?_⟩
      have nB : B ≠ p := hP4.lt_new hB
      have ncB : c ≠ B := ne_of_none x4 hB
      refine ⟨_, rfl, p, L, ns, _, 7, rfl, hP4.new hB, (by decide), (by decide), (by omega), fun k5 H5 k50 k51 hP5 b5 => ?_⟩
      obtain ⟨v, e5, hv⟩ := listAt (xs := BEG.map V.str) k50 k51
      obtain ⟨y, my, rfl⟩ := List.mem_map.mp hv
      refine ⟨B, _, _, _, rfl, rfl, SqL.of ((b5 B nB).trans upd_same), e5, ?_⟩
      have x5 : H5 c = some (.lst (zs.map V.str)) := (b5 c n_c).trans ((upd_ne ncB).trans x4)
      have k5 : Kp p H H5 := (k4.trans (Kp.new hB)).trans b5.kp
      have yl : y.length ≤ 6 := by
        simp only [BEG, List.mem_cons, List.not_mem_nil, or_false] at my
        rcases my with rfl | rfl | rfl | rfl | rfl | rfl | rfl <;> decide +kernel
      have q1 : m / 26 < 26 := by omega
      have q2 : m % 26 < 26 := by omega
      refine ⟨_, rfl, .inl ⟨rfl, _, SqL.of x5⟩, _, rfl, _, rfl, _, rfl, _, _, rfl, rfl, ⟨by decide, by decide⟩, ?_⟩
      refine ⟨LETS, _, 97 + m / 26, rfl, rfl, by decide +kernel, at_any (j := m / 26) (by omega) (let_at ⟨m / 26, q1⟩), ?_⟩
      refine ⟨_, _, rfl, rfl, (by rw [len_one, sizeLine_eq]; omega), _, rfl, _, rfl, _, _, rfl, rfl, (by show (0 : Int) < 26; decide), ?_⟩
      refine ⟨LETS, _, 97 + m % 26, rfl, rfl, by decide +kernel, at_any (j := m % 26) (by omega) (let_at ⟨m % 26, q2⟩), ?_⟩
      refine ⟨_, _, rfl, rfl, (by rw [len_add, len_one, len_one, sizeLine_eq]; omega), c, _, _, rfl, rfl, x5, ?_, ?_⟩
      · rw [List.length_map, hl]
        exact small1000 (by omega)
      have hP6 : Pen (upd H5 c (.lst (zs.map V.str ++ [V.str ((y ++ ⟨#[97 + m / 26]⟩) ++ ⟨#[97 + m % 26]⟩)]))) p L ns (n + 3 + i + 1) := hP5.keep (upd_ne n_c.symm) (upd_ne (ne_of_none hP.ls hc))
      refine ⟨_, rfl, _, rfl, _, _, rfl, rfl, _, _, rfl, rfl, (by show (0 : Int) < 676; decide), ?_⟩
      refine ⟨some (.int (0 + (i : Int))), some (.str y), zs ++ [(y ++ ⟨#[97 + m / 26]⟩) ++ ⟨#[97 + m % 26]⟩], ?_, ?_, ?_, ?_, ?_, hP6.up (by omega), ?_⟩
      · rw [hnext]
        have e9 : (((m : Nat) : Int) + ((a : Int) + 26 * (b : Int))) % 676 = (((m + (a + 26 * b)) % 676 : Nat) : Int) := by omega
        rw [← e9] <;> rfl
      · rw [upd_same, List.map_append] <;> rfl
      · rw [List.length_append, hl] <;> rfl
      · rw [List.map_append, hc2, List.range_succ, List.map_append]
        show _ ++ [code2 _] = _ ++ [nth c0 (a + 26 * b) i]
        rw [code2_of y hcode, hm']
      · intro z mz
        rcases List.mem_append.mp mz with mz | mz
        · exact hz z mz
        · rw [List.mem_singleton.mp mz]
          refine ⟨name_of my (let_is ⟨m / 26, q1⟩) (let_is ⟨m % 26, q2⟩), ?_⟩
          rw [len_add, len_add, len_one, len_one]
          omega
      · intro b' o e nb
        rw [upd_ne (ne_of_none e hc)]
        exact k5 b' o e nb
    · rintro σ H4 ⟨v6, v7, zs, rfl, x4, hl, hc2, hz, hP4, k4⟩
      have hl : zs.length = many := by omega
      have hP4 : Pen H4 p L ns (n + 3 + many) := hP4.up (by omega)
      have nd : zs.Nodup := nodup_of_map (f := code2) (by rw [hc2]; exact nth_nodup ha (by omega) (by omega))
      have nb : ∀ z ∈ zs, nameB z = true := fun z mz => (hz z mz).1
      have plain : ∀ H5, H5 c = some (.lst (zs.map V.str)) → Pen H5 p L ns (n + many + 6) → Kp p H H5 → Q (.ref c) H5 := fun H5 x5 hP5 k5 => q c zs H5 x5 hl nd nb n_c hc hP5 k5
      refine ⟨_, rfl, _, _, rfl, rfl, _, rfl, iteB (fun h1 => ?_) fun _ => iteF ?_⟩
      · have mpos : 0 < many := by
          have := of_decide_eq_true h1
          omega
        refine ⟨_, rfl, p, L, ns, _, 6, rfl, hP4, (by decide), (by decide), (by omega), fun k5 H5 k50 k51 hP5 b5 => ?_⟩
        have x5 := (b5 c n_c).trans x4
        have kk5 := k4.trans b5.kp
        refine ⟨rfl, _, rfl, iteB (fun _ => ?_) fun _ => ?_⟩
        · refine ⟨_, rfl, _, rfl, p, L, ns, _, 26, rfl, hP5, (by decide), (by decide), (by omega), fun k6 H6 k60 k61 hP6 b6 => ?_⟩
          obtain ⟨m6, rfl⟩ : ∃ m6 : Nat, k6 = (m6 : Int) := ⟨_, (Int.toNat_of_nonneg k60).symm⟩
          have h26 : m6 < 26 := by omega
          refine ⟨LETS, _, 97 + m6, rfl, rfl, by decide +kernel, at_any (j := m6) rfl (let_at ⟨m6, h26⟩), ?_⟩
          refine ⟨_, rfl, _, rfl, _, rfl, p, L, ns, _, (many : Int), rfl, hP6, (by omega), (by omega), (by omega), fun k7 H7 k70 k71 hP7 b7 => ?_⟩
          obtain ⟨j, rfl⟩ : ∃ j : Nat, k7 = (j : Int) := ⟨_, (Int.toNat_of_nonneg k70).symm⟩
          have hj : j < many := by omega
          have x7 : H7 c = some (.lst (zs.map V.str)) := (b7 c n_c).trans ((b6 c n_c).trans x5)
          have k7 : Kp p H H7 := (kk5.trans b6.kp).trans b7.kp
          refine ⟨c, _, _, j, rfl, rfl, x7, ixN_at (by rw [List.length_map, hl]; exact hj), ?_⟩
          have hP8 : Pen (upd H7 c (.lst ((zs.map V.str).set j (V.str ⟨#[97 + m6]⟩)))) p L ns (n + many + 6) := (hP7.keep (upd_ne n_c.symm) (upd_ne (ne_of_none hP.ls hc))).up (by omega)
          refine ⟨_, rfl, q c (zs.set j ⟨#[97 + m6]⟩) _ ?_ (by rw [List.length_set]; exact hl) (nodup_set nd fun mz => ?_) (fun z mz => ?_) n_c hc hP8 fun b' o e nb' => ?_⟩
          · rw [upd_same, List.map_set]
          · have := (hz _ mz).2
            rw [len_one] at this
            omega
          · rcases List.mem_or_eq_of_mem_set mz with mz | e
            · exact nb z mz
            · rw [e]
              exact one_of (let_is ⟨m6, h26⟩)
          · rw [upd_ne (ne_of_none e hc)]
            exact k7 b' o e nb'
        · exact ⟨_, rfl, plain H5 x5 (hP5.up (by omega)) kk5⟩
      · exact ⟨_, rfl, plain H4 x4 (hP4.up (by omega)) k4⟩

/-! ### masters drawn -/
def spMasters (K : PySem.W.Frag) : Sp := fun vs H Q _ => ∃ (p L pool : Addr) (ns : List Int) (n most : Nat) (ps : List Str), vs = [.ref p, .int most, .ref pool] ∧ 0 < most ∧ most ≤ 6 ∧ Pen H p L ns n ∧ n + 10000 < 1000000 ∧ H pool = some (.lst (ps.map V.str)) ∧ pool ≠ p ∧ ps.Nodup ∧ (∀ z ∈ ps, nameB z = true) ∧ ps.length ≤ 8 ∧
  ∀ (v : V) (ms : List MaM) (H' : Hp), Dp K H' v (.tuple (ms.map MaM.d)) → OkMs ms → Pen H' p L ns (n + 9000) → Kp p H H' → Q v H'
theorem ok_masters {f : Addr} {fd : FuncData} (F : FnP K "_law_masters" slaw_masters f fd) (T : Txt mg) (D_law_draw : Dn P w K mg base 1 "_law_draw" ["pen", "many"] spDraw) (D_law_names : Dn P w K mg base 2 "_law_names" ["pen", "many"] spNames) (D_law_place : Dn P w K mg base 4 "_law_place" ["pen", "name"] (spPlaceL K)) :
    FnOk P w K mg base CX0 5 f fd ["pen", "most", "pool"] (spMasters K) := by
  refine okN F sclaw_masters (fun vs H Q E h => ?_) (fun cdv A outer s H vs Q E hr h => ?_)
  · obtain ⟨p, L, pool, ns, n, most, ps, rfl, _⟩ := h
    rfl
  · obtain ⟨p, L, pool, ns, n, most, ps, rfl, hm0, hm, hP, hn, xp, np, pn, pnm, pl8, q⟩ := h
    refine ⟨_, (pss_cons (ps_set (i := 3) sclaw_masters.nd rfl (Or.inl rfl) (pe_dn D_law_names (hr.mono (by decide)) rfl (pa_cons (pv 0) (pa_cons (pe_op op_add pe_int (pe_dn D_law_draw (hr.mono (by decide)) rfl (pa_cons (pv 0) (pa_cons (pv 1) pa_nil)))) pa_nil))))
      (pss_cons (ps_set (i := 4) sclaw_masters.nd rfl (Or.inl rfl) (pe_lst pa_nil))
      (pss_cons (ps_for PassesOwn.never rfl (pi_range1 rfl T.m_range (pa_cons (pe_callB call_len_seq (by rfl) T.m_len (by decide +kernel) (pa_cons (pv 3) pa_nil)) pa_nil)) (pg_name (i := 5) sclaw_masters.nd rfl (Or.inl rfl)) (pss_cons (ps_set (i := 6) sclaw_masters.nd rfl (Or.inl rfl) pe_non)
      (pss_cons (ps_if (PW.pt (pw_and (pt_cmpR op_gt (pv 5) pe_int (nomark _)) (pw_and1 (pt_cmpR op_gt (pe_dn D_law_draw (hr.mono (by decide)) rfl (pa_cons (pv 0) (pa_cons pe_int pa_nil))) pe_int (nomark _))))) (pss_one (ps_set (i := 6) sclaw_masters.nd rfl (Or.inl rfl) (pe_ix ix_list (pv 3) (pe_ix ix_list (pe_lst (pa_cons (pe_op op_sub (pv 5) pe_int) (pa_cons (pe_dn D_law_draw (hr.mono (by decide)) rfl (pa_cons (pv 0) (pa_cons (pv 5) pa_nil))) pa_nil))) (pe_dn D_law_draw (hr.mono (by decide)) rfl (pa_cons (pv 0) (pa_cons pe_int pa_nil))) (fun _ _ => rfl)) (fun _ _ => rfl)))) pss_nil)
      (pss_cons (ps_set (i := 7) sclaw_masters.nd rfl (Or.inl rfl) (pe_lst pa_nil))
      (pss_cons (ps_for PassesOwn.never rfl (pi_list (pv 2)) (pg_name (i := 8) sclaw_masters.nd rfl (Or.inl rfl)) (pss_one (ps_if (PW.pt (pw_and (pt_cmpR op_eq (pe_dn D_law_draw (hr.mono (by decide)) rfl (pa_cons (pv 0) (pa_cons pe_int pa_nil))) pe_int (nomark _)) (pw_and1 (pt_cmpR op_lt (pe_callB call_len_seq (by rfl) T.m_len (by decide +kernel) (pa_cons (pv 7) pa_nil)) pe_int (nomark _))))) (pss_one (ps_expr (pe_bm PySem.F.plainAttrs_list PySem.F.slot_list_insert PySem.F.type_list_insert mt_insert (pv 7) (pa_cons (pe_dn D_law_draw (hr.mono (by decide)) rfl (pa_cons (pv 0) (pa_cons (pe_op op_add (pe_callB call_len_seq (by rfl) T.m_len (by decide +kernel) (pa_cons (pv 7) pa_nil)) pe_int) pa_nil))) (pa_cons (pe_dn D_law_place (hr.mono (by decide)) rfl (pa_cons (pv 0) (pa_cons (pv 8) pa_nil))) pa_nil))))) pss_nil)))
      (pss_one (ps_expr (pe_bm PySem.F.plainAttrs_list PySem.F.slot_list_insert PySem.F.type_list_insert mt_insert (pv 4) (pa_cons (pe_dn D_law_draw (hr.mono (by decide)) rfl (pa_cons (pv 0) (pa_cons (pe_op op_add (pe_callB call_len_seq (by rfl) T.m_len (by decide +kernel) (pa_cons (pv 4) pa_nil)) pe_int) pa_nil))) (pa_cons (pe_tup (pa_cons (pe_ix ix_list (pv 3) (pv 5) (fun _ _ => rfl)) (pa_cons (pv 6) (pa_cons (pe_callTy call_tuple_of (by rfl) T.m_tuple (by decide +kernel) (pa_cons (pv 7) pa_nil)) pa_nil)))) pa_nil))))))))))
      (pss_one (ps_ret (pe_callTy call_tuple_of (by rfl) T.m_tuple (by decide +kernel) (pa_cons (pv 4) pa_nil))))))), ?_⟩
    refine ⟨_, rfl, _, rfl, _, rfl, p, L, ns, n, (most : Int), rfl, hP, (by omega), (by omega), (by omega), fun k1 H1 k10 k11 hP1 b1 => ?_⟩
    obtain ⟨m1, rfl⟩ : ∃ m1 : Nat, k1 = (m1 : Int) := ⟨_, (Int.toNat_of_nonneg k10).symm⟩
    refine ⟨_, _, rfl, rfl, p, L, ns, n + 1, 1 + m1, by
      have e : ((1 : Int) + (m1 : Int)) = ((1 + m1 : Nat) : Int) := by omega
      show [V.ref p, V.int ((1 : Int) + (m1 : Int))] = _
      rw [e], (by omega), hP1, (by omega), fun c zs H2 xc hl nd nb n_c _ hP2 k2 => ?_⟩
    have kk2 : Kp p H H2 := b1.kp.trans k2
    have xp2 := kk2 _ _ xp np
    refine ⟨(by show 0 ≤ sizeLine; decide), fun D hD => ?_⟩
    have nD : D ≠ p := hP2.lt_new hD
    have nLD : L ≠ D := ne_of_none hP2.ls hD
    have ncD : c ≠ D := ne_of_none xc hD
    have npD : pool ≠ D := ne_of_none xp2 hD
    have xD : (upd H2 D (.lst [])) D = some (.lst []) := upd_same
    have xc3 : (upd H2 D (.lst [])) c = _ := (upd_ne ncD).trans xc
    have xp3 : (upd H2 D (.lst [])) pool = _ := (upd_ne npD).trans xp2
    have hP3 := hP2.new (o := .lst []) hD
    have k3 : Kp p H (upd H2 D (.lst [])) := kk2.trans (Kp.new hD)
    have away : ∀ {b : Addr} {o : HO}, H b = some o → b ≠ p → b ≠ D := fun {b o} e nb => ne_of_none (kk2 b o e nb) hD
    revert xD xc3 xp3 hP3 k3
    generalize upd H2 D (.lst []) = H3
    intro xD xc3 xp3 hP3 k3
    refine ⟨_, rfl, c, _, rfl, .inl (SqL.of xc3), ((zs.map V.str).length : Int), rfl, (by omega), (by rw [List.length_map, hl]; omega), ?_⟩
    refine for_range (lo := 0) (n := ((zs.map V.str).length : Int).toNat) (fun i σ H4 => ∃ (v5 v6 v7 v8 : Option V) (ms : List MaM) (xs : List V), σ = [some (.ref p), some (.int (most : Int)), some (.ref pool), some (.ref c), some (.ref D), v5, v6, v7, v8] ∧
      H4 D = some (.lst xs) ∧ DpAll K H4 xs (ms.map MaM.d) ∧ (∀ m ∈ ms, OkMa m) ∧ (ms.map (·.name)).Perm (zs.take i) ∧ Ahead zs i ms ∧ Pen H4 p L ns (n + 20 + 1300 * i) ∧ Kp p H H4 ∧ H4 c = some (.lst (zs.map V.str)) ∧ H4 pool = some (.lst (ps.map V.str))) ?_ ?_ ?_
    · refine ⟨none, none, none, none, [], [], rfl, xD, .nil, fun m hm => (nomatch hm), .refl _, fun m hm => (nomatch hm), hP3.up (by omega), k3, xc3, xp3⟩
    · rintro i σ H4 hi ⟨v5, v6, v7, v8, ms, xs, rfl, xD4, dp4, ok4, pm4, ah4, hP4, k4, xc4, xp4⟩
      have hi : i < zs.length := by
        have e : ((zs.map V.str).length : Int).toNat = zs.length := by rw [List.length_map]; omega
        omega
      have i7 : i ≤ 6 := by omega
      obtain ⟨zi, hzi⟩ : ∃ z, zs[i]? = some z := ⟨_, List.getElem?_eq_getElem hi⟩
      refine seq_via (fun σ' H' => σ' = [some (.ref p), some (.int (most : Int)), some (.ref pool), some (.ref c), some (.ref D), some (.int (0 + (i : Int))), some .non, v7, v8] ∧ H4 = H') (fun nx go => go _ _ ⟨rfl, rfl⟩) ?_
      rintro _ _ ⟨rfl, rfl⟩
      refine seq_via (fun σ' H5 => ∃ (oz : Option Str) (u5 : Int), u5 = (i : Int) ∧ σ' = [some (.ref p), some (.int (most : Int)), some (.ref pool), some (.ref c), some (.ref D), some (.int u5), some (ovD oz), v7, v8] ∧ (∀ z, oz = some z → ∃ j, zs[j]? = some z ∧ j < i) ∧ Pen H5 p L ns (n + 20 + 1300 * i + 3) ∧ Kp p H4 H5) ?_ ?_
      · intro nx go
        refine ⟨_, rfl, _, _, rfl, rfl, _, rfl, iteB (fun h1 => ?_) fun _ => iteF (go _ _ ⟨none, 0 + (i : Int), by omega, rfl, fun z e => (nomatch e), hP4.up (by omega), Kp.refl⟩)⟩
        have ipos : 0 < i := by
          have := of_decide_eq_true h1
          omega
        refine ⟨_, rfl, p, L, ns, _, 4, rfl, hP4, (by decide), (by decide), (by omega), fun a1 H5 a10 a11 hP5 b5 => ?_⟩
        refine ⟨_, _, rfl, rfl, _, rfl, iteB (fun _ => ?_) fun _ => go _ _ ⟨none, 0 + (i : Int), by omega, rfl, fun z e => (nomatch e), hP5.up (by omega), b5.kp⟩⟩
        refine ⟨_, rfl, _, rfl, _, _, rfl, rfl, _, rfl, _, rfl, p, L, ns, _, (0 + (i : Int)), rfl, hP5, (by omega), (by omega), (by omega), fun a2 H6 a20 a21 hP6 b6 => ?_⟩
        refine ⟨(by show 2 ≤ sizeLine; decide), fun M hM => ?_⟩
        have nM : M ≠ p := hP6.lt_new hM
        refine ⟨_, rfl, p, L, ns, _, 2, rfl, hP6.new hM, (by decide), (by decide), (by omega), fun a3 H7 a30 a31 hP7 b7 => ?_⟩
        obtain ⟨v, e7, hv⟩ := listAt (xs := [V.int (0 + (i : Int) - 1), V.int a2]) a30 a31
        refine ⟨M, _, _, v, rfl, rfl, SqL.of ((b7 M nM).trans upd_same), e7, ?_⟩
        obtain ⟨j, rfl, hj⟩ : ∃ j : Nat, v = .int (j : Int) ∧ j < i := by
          simp only [List.mem_cons, List.not_mem_nil, or_false] at hv
          rcases hv with rfl | rfl
          · exact ⟨i - 1, by rw [show (0 + (i : Int) - 1) = ((i - 1 : Nat) : Int) by omega], by omega⟩
          · exact ⟨a2.toNat, by rw [Int.toNat_of_nonneg a20], by omega⟩
        have k7 : Kp p H4 H7 := ((b5.kp.trans b6.kp).trans (Kp.new hM)).trans b7.kp
        obtain ⟨zj, ej⟩ : ∃ z, zs[j]? = some z := ⟨_, List.getElem?_eq_getElem (by omega)⟩
        refine ⟨c, _, _, .str zj, rfl, rfl, SqL.of (k7 _ _ xc4 n_c), at_any (j := j) rfl (by rw [List.getElem?_map, ej] <;> rfl), ?_⟩
        exact go _ _ ⟨some zj, 0 + (i : Int), by omega, rfl, fun z e => by cases e; exact ⟨j, ej, hj⟩, hP7.up (by omega), k7⟩
      · rintro σ' H5 ⟨oz, u5, rfl, rfl, hoz, hP5, k5⟩
        refine ⟨(by show 0 ≤ sizeLine; decide), fun O hO => ?_⟩
        have nO : O ≠ p := hP5.lt_new hO
        have xO : (upd H5 O (.lst [])) O = some (.lst []) := upd_same
        have hP6 := hP5.new (o := .lst []) hO
        have k6 : Kp p H4 (upd H5 O (.lst [])) := k5.trans (Kp.new hO)
        have awO : ∀ {b : Addr} {o : HO}, H4 b = some o → b ≠ p → b ≠ O := fun {b o} e nb => ne_of_none (k5 b o e nb) hO
        have nLO : L ≠ O := ne_of_none hP5.ls hO
        revert xO hP6 k6
        generalize upd H5 O (.lst []) = H6
        intro xO hP6 k6
        refine ⟨_, rfl, pool, rfl, ⟨_, SqL.of (k6 _ _ xp4 np)⟩, for_list (K := K) (a := pool) (xs := ps.map V.str) (fun j σ H7 => ∃ (u8 : Option V) (own : List PlM) (ys : List V), σ = [some (.ref p), some (.int (most : Int)), some (.ref pool), some (.ref c), some (.ref D), some (.int (i : Int)), some (ovD oz), some (.ref O), u8] ∧
          H7 O = some (.lst ys) ∧ DpAll K H7 ys (own.map PlM.d) ∧ (∀ q ∈ own, OkPl q ∧ nameB q.name = true) ∧ (own.map (·.name)).Nodup ∧ (∀ q ∈ own, q.name ∈ ps.take j) ∧ own.length ≤ 8 ∧ Pen H7 p L ns (n + 20 + 1300 * i + 3 + 152 * j) ∧ Kp p H4 H7) ?_ ?_ ?_ ?_⟩
        · exact ⟨_, [], [], rfl, xO, .nil, fun q hq => (nomatch hq), List.nodup_nil, fun q hq => (nomatch hq), by decide, hP6, k6⟩
        · rintro j σ H7 hj ⟨u8, own, ys, _, _, _, _, _, _, _, _, k7⟩
          exact SqL.of (k7 _ _ xp4 np)
        · rintro j x σ H7 hx ⟨u8, own, ys, rfl, x7, dp7, ok7, nd7, in7, l7, hP7, k7⟩
          obtain ⟨z, hz, rfl⟩ : ∃ z, ps[j]? = some z ∧ x = V.str z := by
            rw [List.getElem?_map] at hx
            cases e : ps[j]? with
            | none =>
              rw [e] at hx
              cases hx
            | some z =>
              rw [e] at hx
              exact ⟨z, rfl, (Option.some.inj hx).symm⟩
          have hj : j < ps.length := (List.getElem?_eq_some_iff.mp hz).1
          have in8 : ∀ q ∈ own, q.name ∈ ps.take (j + 1) := fun q hq => by
            rw [take_more hz]
            exact List.mem_append_left _ (in7 q hq)
          have ln : ys.length ≤ 8 := by
            have h := dpAll_len dp7
            rw [List.length_map] at h
            omega
          refine ⟨_, rfl, p, L, ns, _, 3, rfl, hP7, (by decide), (by decide), (by omega), fun a1 H8 a10 a11 hP8 b8 => ?_⟩
          have x8 := (b8 O nO).trans x7
          have dp8 := dpTAll_keep (KT.pen hP7 b8.kp) dp7 (own_noL ok7)
          have k8 := k7.trans b8.kp
          refine ⟨rfl, _, rfl, iteB (fun _ => ?_) fun _ => iteF ⟨_, own, ys, rfl, x8, dp8, ok7, nd7, in8, l7, hP8.up (by omega), k8⟩⟩
          refine ⟨_, rfl, O, _, rfl, .inl (SqL.of x8), _, _, rfl, rfl, _, rfl, iteB (fun h2 => ?_) fun _ => ⟨_, own, ys, rfl, x8, dp8, ok7, nd7, in8, l7, hP8.up (by omega), k8⟩⟩
          have l8 : ys.length < 8 := by
            have := of_decide_eq_true h2
            omega
          refine ⟨_, rfl, .inl ⟨rfl, _, SqL.of x8⟩, _, rfl, _, rfl, O, _, rfl, .inl (SqL.of x8), _, _, rfl, rfl, p, L, ns, _, _, rfl, hP8, (by omega), (by omega), (by omega), fun a2 H9 a20 a21 hP9 b9 => ?_⟩
          refine ⟨_, rfl, _, rfl, p, L, ns, _, z, rfl, hP9, (by omega), fun v pl H10 hd hnm hok hP10 k10 => ?_⟩
          have x10 := k10 _ _ ((b9 O nO).trans x8) nO
          have dp10 := dpTAll_keep ((KT.pen hP8 b9.kp).trans (KT.pen hP9 k10)) dp8 (own_noL ok7)
          refine ⟨O, ys, a2, v, rfl, rfl, x10, small1000 (by omega), a20, (by omega), ?_⟩
          rw [ins_eq]
          have hP11 : Pen (upd H10 O (.lst (ins ys a2.toNat v))) p L ns (n + 20 + 1300 * i + 3 + 152 * (j + 1)) := (hP10.keep (upd_ne nO.symm) (upd_ne nLO)).up (by omega)
          have ok11 : ∀ q ∈ ins own a2.toNat pl, OkPl q ∧ nameB q.name = true := fun q hq => by
            rcases ins_mem.mp hq with rfl | hq
            · exact ⟨hok, by rw [hnm]; exact pnm z (List.mem_of_getElem? hz)⟩
            · exact ok7 q hq
          refine ⟨_, ins own a2.toNat pl, ins ys a2.toNat v, rfl, upd_same, ?_, ok11, ?_, fun q hq => ?_, ?_, hP11, ?_⟩
          · rw [ins_map]
            exact dpTAll_keep (KT.put x10) (ins_dp a2.toNat dp10 hd) (by rw [← ins_map]; exact own_noL ok11)
          · rw [ins_map]
            refine ins_nodup nd7 fun hm => ?_
            obtain ⟨q, hq, e⟩ := List.mem_map.mp hm
            have h1 := in7 q hq
            rw [e, hnm] at h1
            exact not_take pn hz h1
          · rcases ins_mem.mp hq with rfl | hq
            · rw [take_more hz, hnm]
              exact List.mem_append_right _ (List.mem_singleton.mpr rfl)
            · exact in8 q hq
          · have h := dpAll_len dp7
            rw [List.length_map] at h
            rw [ins_len]
            omega
          · intro b o e nb
            rw [upd_ne (awO e nb)]
            exact k10 b o ((k8.trans b9.kp) b o e nb) nb
        · rintro σ H7 ⟨u8, own, ys, rfl, x7, dp7, ok7, nd7, in7, l7, hP7, k7⟩
          have hP7 : Pen H7 p L ns (n + 20 + 1300 * i + 1240) := hP7.up (by rw [List.length_map]; omega)
          have xD7 := k7 _ _ xD4 nD
          have lx : xs.length ≤ 12 := by
            have h := dpAll_len dp4
            have h2 := pm4.length_eq
            rw [List.length_map] at h h2
            rw [List.length_take] at h2
            omega
          refine ⟨_, rfl, .inl ⟨rfl, _, SqL.of xD7⟩, _, rfl, _, rfl, D, _, rfl, .inl (SqL.of xD7), _, _, rfl, rfl, p, L, ns, _, _, rfl, hP7, (by omega), (by omega), (by omega), fun a3 H8 a30 a31 hP8 b8 => ?_⟩
          have k8 := k7.trans b8.kp
          have x8 := (b8 O nO).trans x7
          have dp8 := dpTAll_keep (KT.pen hP7 b8.kp) dp7 (own_noL ok7)
          refine ⟨_, rfl, _, rfl, c, _, _, .str zi, rfl, rfl, SqL.of (k8 _ _ xc4 n_c), at_any (j := i) rfl (by rw [List.getElem?_map, hzi] <;> rfl), _, rfl, _, rfl, O, _, rfl, .inl ⟨SqL.of x8, fun g hg => ?_⟩⟩
          have sg : Same H8 (upd H8 g (.tup ys)) := same_new hg
          have xg : (upd H8 g (.tup ys)) g = some (.tup ys) := upd_same
          have dg : Dp K (upd H8 g (.tup ys)) (.ref g) (.tuple (own.map PlM.d)) := .tup (SqT.of xg) (dpTAll_keep (KT.same sg) dp8 (own_noL ok7))
          have hP9 := hP8.new (o := .tup ys) hg
          have k9 := k8.trans (sameKp (p := p) sg)
          revert dg hP9 k9
          generalize upd H8 g (.tup ys) = H9
          intro dg hP9 k9
          refine ⟨(by show 3 ≤ sizeLine; decide), fun t ht => ?_⟩
          have st : Same H9 (upd H9 t (.tup [V.str zi, ovD oz, V.ref g])) := same_new ht
          have xt : (upd H9 t (.tup [V.str zi, ovD oz, V.ref g])) t = some (.tup [V.str zi, ovD oz, V.ref g]) := upd_same
          have dg2 := dpT_keep (KT.same st) dg (by simp only [noL, own_noL ok7])
          have hP10 := hP9.new (o := .tup [V.str zi, ovD oz, V.ref g]) ht
          have k10 := k9.trans (sameKp (p := p) st)
          revert xt dg2 hP10 k10
          generalize upd H9 t (.tup [V.str zi, ovD oz, V.ref g]) = H10
          intro xt dg2 hP10 k10
          have okm : OkMa ⟨zi, oz, own⟩ := ⟨nb zi (List.mem_of_getElem? hzi), ok7, nd7, l7⟩
          have dt : Dp K H10 (.ref t) (MaM.d ⟨zi, oz, own⟩) := by
            refine .tup (SqT.of xt) (.cons (.str zi) (.cons ?_ (.cons dg2 .nil)))
            cases oz with
            | none => exact .non
            | some z => exact .str z
          have xD10 := k10 _ _ xD4 nD
          have dp10 := dpTAll_keep (KT.pen hP4 k10) dp4 (mas_noL ok4)
          refine ⟨D, xs, a3, _, rfl, rfl, xD10, small1000 (by omega), a30, (by omega), ?_⟩
          rw [ins_eq]
          have ok11 : ∀ m ∈ ins ms a3.toNat ⟨zi, oz, own⟩, OkMa m := fun m hm => by
            rcases ins_mem.mp hm with rfl | hm
            · exact okm
            · exact ok4 m hm
          have hP11 : Pen (upd H10 D (.lst (ins xs a3.toNat (V.ref t)))) p L ns (n + 20 + 1300 * (i + 1)) := (hP10.keep (upd_ne nD.symm) (upd_ne nLD)).up (by omega)
          refine ⟨_, _, _, _, ins ms a3.toNat ⟨zi, oz, own⟩, ins xs a3.toNat (.ref t), rfl, upd_same, ?_, ok11, ?_, fun m hm z ez => ?_, hP11, fun b o e nb' => ?_, ?_, ?_⟩
          · rw [ins_map]
            exact dpTAll_keep (KT.put xD10) (ins_dp a3.toNat dp10 dt) (by rw [← ins_map]; exact mas_noL ok11)
          · rw [ins_map, take_more hzi]
            exact (ins_perm.trans (pm4.cons zi)).trans (List.perm_append_comm (l₁ := [zi]) (l₂ := zs.take i))
          · rcases ins_mem.mp hm with rfl | hm
            · obtain ⟨j, ej, hj⟩ := hoz z ez
              exact ⟨j, i, ej, hzi, hj, by omega⟩
            · obtain ⟨j, k, ej, ek, jk, ki⟩ := ah4 m hm z ez
              exact ⟨j, k, ej, ek, jk, by omega⟩
          · rw [upd_ne (away e nb')]
            exact k10 b o (k4 b o e nb') nb'
          · rw [upd_ne ncD]
            exact k10 _ _ xc4 n_c
          · rw [upd_ne npD]
            exact k10 _ _ xp4 np
    · rintro σ H4 ⟨v5, v6, v7, v8, ms, xs, rfl, xD4, dp4, ok4, pm4, ah4, hP4, k4, _, _⟩
      have eN : ((zs.map V.str).length : Int).toNat = zs.length := by rw [List.length_map]; omega
      rw [eN] at pm4 ah4 hP4
      rw [List.take_length] at pm4
      have okM : OkMs ms := by
        refine ⟨ok4, pm4.nodup_iff.mpr nd, ⟨fun z => pos z zs, fun z => Nat.le_trans (pos_le z zs) (by omega), fun m mm z ez => ?_⟩, ?_⟩
        · obtain ⟨j, k, ej, ek, jk, _⟩ := ah4 m mm z ez
          refine ⟨?_, ?_⟩
          · have h1 : z ∈ ms.map (·.name) := pm4.mem_iff.mpr (List.mem_of_getElem? ej)
            obtain ⟨o, ho, e⟩ := List.mem_map.mp h1
            exact ⟨o, ho, e⟩
          · show pos z zs < pos m.name zs
            rw [pos_get nd ej, pos_get nd ek]
            exact jk
        · have h1 := pm4.length_eq
          rw [List.length_map] at h1
          omega
      refine ⟨_, rfl, D, _, rfl, .inl ⟨SqL.of xD4, fun g hg => ?_⟩⟩
      refine q _ ms _ (.tup (SqT.of upd_same) (dpTAll_keep (KT.same (same_new hg)) dp4 (mas_noL ok4))) okM ((hP4.new hg).up (by omega)) (k4.trans (Kp.new hg))

/-! ### a tall one -/
def spMade (K : PySem.W.Frag) : Sp := fun vs H Q _ => ∃ (p L : Addr) (ns : List Int) (n : Nat), vs = [.ref p] ∧ Pen H p L ns n ∧ n + 10000 < 1000000 ∧ ∀ (v : V) (ms : List MaM) (H' : Hp), Dp K H' v (.tuple (ms.map MaM.d)) → OkMs ms → Pen H' p L ns (n + 9000) → Kp p H H' → Q v H'
theorem ok_tall {f : Addr} {fd : FuncData} (F : FnP K "_law_tall" slaw_tall f fd) (T : Txt mg) (D_law_draw : Dn P w K mg base 1 "_law_draw" ["pen", "many"] spDraw) (D_law_names : Dn P w K mg base 2 "_law_names" ["pen", "many"] spNames) (D_law_place : Dn P w K mg base 4 "_law_place" ["pen", "name"] (spPlaceL K)) :
    FnOk P w K mg base CX0 5 f fd ["pen"] (spMade K) := by
  refine okN F sclaw_tall (fun vs H Q E h => ?_) (fun cdv A outer s H vs Q E hr h => ?_)
  · obtain ⟨p, L, ns, n, rfl, _⟩ := h
    rfl
  · obtain ⟨p, L, ns, n, rfl, hP, hn, q⟩ := h
    refine ⟨_, (pss_cons (ps_par3 (i := 1) (j := 2) (l := 3) (by rfl) sclaw_tall.nd rfl rfl rfl (by decide) (by decide) (by decide) rfl rfl rfl (pa_cons (pe_dn D_law_names (hr.mono (by decide)) rfl (pa_cons (pv 0) (pa_cons (pe_op op_add pe_int (pe_dn D_law_draw (hr.mono (by decide)) rfl (pa_cons (pv 0) (pa_cons pe_int pa_nil)))) pa_nil))) (pa_cons (pe_dn D_law_names (hr.mono (by decide)) rfl (pa_cons (pv 0) (pa_cons pe_int pa_nil))) (pa_cons (pe_lst pa_nil) pa_nil))) (by rfl))
      (pss_cons (ps_for PassesOwn.never rfl (pi_range1 rfl T.m_range (pa_cons (pe_callB call_len_seq (by rfl) T.m_len (by decide +kernel) (pa_cons (pv 1) pa_nil)) pa_nil)) (pg_name (i := 4) sclaw_tall.nd rfl (Or.inl rfl)) (pss_cons (ps_set (i := 5) sclaw_tall.nd rfl (Or.inl rfl) (pe_callTy call_tuple_of (by rfl) T.m_tuple (by decide +kernel) (pa_cons (pe_lc (own := [("place", 6)]) (g := gName 6) (by rfl) sclaw_tall.nd (pi_list (pv 2)) (blkOk_by (own := [("place", 6)]) (N := ["pen", "names", "places", "made", "k", "own", "place"]) (sc := defScope slaw_tall) (by decide +kernel)) (fun _ _ _ _ _ => (pg_name (i := 6) sclaw_tall.nd rfl (Or.inl rfl))) (fun _ _ _ _ _ => (pts_one (pt_cmpR op_eq (pe_dn D_law_draw (hr.mono (by decide)) rfl (pa_cons (pv 0) (pa_cons pe_int pa_nil))) pe_int (nomark _)))) (fun _ _ _ _ _ => (pe_dn D_law_place (hr.mono (by decide)) rfl (pa_cons (pv 0) (pa_cons (pv 6) pa_nil))))) pa_nil)))
      (pss_one (ps_expr (pe_bm PySem.F.plainAttrs_list PySem.F.slot_list_insert PySem.F.type_list_insert mt_insert (pv 3) (pa_cons (pe_dn D_law_draw (hr.mono (by decide)) rfl (pa_cons (pv 0) (pa_cons (pe_op op_add (pv 4) pe_int) pa_nil))) (pa_cons (pe_tup (pa_cons (pe_ix ix_list (pv 1) (pv 4) (fun _ _ => rfl)) (pa_cons (pe_ifExp (pt_cmpR op_gt (pv 4) pe_int (nomark _)) (pe_ix ix_list (pv 1) (pe_op op_sub (pv 4) pe_int) (fun _ _ => rfl)) pe_non) (pa_cons (pv 5) pa_nil)))) pa_nil)))))))
      (pss_one (ps_ret (pe_callTy call_tuple_of (by rfl) T.m_tuple (by decide +kernel) (pa_cons (pv 3) pa_nil)))))), ?_⟩
    refine ⟨_, rfl, _, rfl, p, L, ns, n, 6, rfl, hP, (by decide), (by decide), (by omega), fun k1 H1 k10 k11 hP1 b1 => ?_⟩
    obtain ⟨m1, rfl⟩ : ∃ m1 : Nat, k1 = (m1 : Int) := ⟨_, (Int.toNat_of_nonneg k10).symm⟩
    refine ⟨_, _, rfl, rfl, p, L, ns, n + 1, 7 + m1, by
      have e : ((7 : Int) + (m1 : Int)) = ((7 + m1 : Nat) : Int) := by omega
      show [V.ref p, V.int ((7 : Int) + (m1 : Int))] = _
      rw [e], (by omega), hP1, (by omega), fun c zs H2 xc hl nd nb n_c nc hP2 k2 => ?_⟩
    refine ⟨_, rfl, p, L, ns, _, 3, rfl, (by decide), hP2, (by omega), fun c2 ps H3 xp pl pn pnm np nc2 hP3 k3 => ?_⟩
    have xc3 := k3 _ _ xc n_c
    have kk3 : Kp p H H3 := (b1.kp.trans k2).trans k3
    refine ⟨(by show 0 ≤ sizeLine; decide), fun D hD => ⟨_, _, _, rfl, ?_⟩⟩
    have nD : D ≠ p := hP3.lt_new hD
    have nLD : L ≠ D := ne_of_none hP3.ls hD
    have ncD : c ≠ D := ne_of_none xc3 hD
    have npD : c2 ≠ D := ne_of_none xp hD
    have away : ∀ {b : Addr} {o : HO}, H b = some o → b ≠ p → b ≠ D := fun {b o} e nb => ne_of_none (kk3 b o e nb) hD
    have xD : (upd H3 D (.lst [])) D = some (.lst []) := upd_same
    have xc4 : (upd H3 D (.lst [])) c = _ := (upd_ne ncD).trans xc3
    have xp4 : (upd H3 D (.lst [])) c2 = _ := (upd_ne npD).trans xp
    have hP4 := hP3.new (o := .lst []) hD
    have k4 : Kp p H (upd H3 D (.lst [])) := kk3.trans (Kp.new hD)
    revert xD xc4 xp4 hP4 k4
    generalize upd H3 D (.lst []) = H4
    intro xD xc4 xp4 hP4 k4
    refine ⟨_, rfl, c, _, rfl, .inl (SqL.of xc4), ((zs.map V.str).length : Int), rfl, (by omega), (by rw [List.length_map, hl]; omega), ?_⟩
    refine for_range (lo := 0) (n := ((zs.map V.str).length : Int).toNat) (fun i σ H5 => ∃ (v4 v5 v6 : Option V) (ms : List MaM) (xs : List V), σ = [some (.ref p), some (.ref c), some (.ref c2), some (.ref D), v4, v5, v6] ∧
      H5 D = some (.lst xs) ∧ DpAll K H5 xs (ms.map MaM.d) ∧ (∀ m ∈ ms, OkMa m) ∧ (ms.map (·.name)).Perm (zs.take i) ∧ Ahead zs i ms ∧ Pen H5 p L ns (n + 40 + 600 * i) ∧ Kp p H H5 ∧ H5 c = some (.lst (zs.map V.str)) ∧ H5 c2 = some (.lst (ps.map V.str))) ?_ ?_ ?_
    · exact ⟨none, none, none, [], [], rfl, xD, .nil, fun m hm => (nomatch hm), .refl _, fun m hm => (nomatch hm), hP4.up (by omega), k4, xc4, xp4⟩
    · rintro i σ H5 hi ⟨v4, v5, v6, ms, xs, rfl, xD5, dp5, ok5, pm5, ah5, hP5, k5, xc5, xp5⟩
      have hi : i < zs.length := by
        have e : ((zs.map V.str).length : Int).toNat = zs.length := by rw [List.length_map]; omega
        omega
      obtain ⟨zi, hzi⟩ : ∃ z, zs[i]? = some z := ⟨_, List.getElem?_eq_getElem hi⟩
      refine ⟨_, rfl, c2, rfl, ⟨_, SqL.of xp5⟩, fun O hO => ?_⟩
      have nO : O ≠ p := hP5.lt_new hO
      have nLO : L ≠ O := ne_of_none hP5.ls hO
      refine lc_list (K := K) (a := c2) (xs := ps.map V.str) (fun j H6 => ∃ (own : List PlM) (ys : List V), H6 O = some (.lst ys) ∧ DpAll K H6 ys (own.map PlM.d) ∧ (∀ q ∈ own, OkPl q ∧ nameB q.name = true) ∧ (own.map (·.name)).Nodup ∧ (∀ q ∈ own, q.name ∈ ps.take j) ∧ own.length ≤ j ∧ Pen H6 p L ns (n + 40 + 600 * i + 152 * j) ∧ Kp p H5 H6) ?_ ?_ ?_ ?_
      · exact ⟨[], [], upd_same, .nil, fun q hq => (nomatch hq), List.nodup_nil, fun q hq => (nomatch hq), Nat.le_refl _, hP5.new hO, Kp.new hO⟩
      · rintro j H6 hj ⟨own, ys, _, _, _, _, _, _, _, k6⟩
        exact SqL.of (k6 _ _ xp5 np)
      · rintro j x H6 hx ⟨own, ys, x6, dp6, ok6, nd6, in6, l6, hP6, k6⟩
        obtain ⟨z, hz, rfl⟩ : ∃ z, ps[j]? = some z ∧ x = V.str z := by
          rw [List.getElem?_map] at hx
          cases e : ps[j]? with
          | none =>
            rw [e] at hx
            cases hx
          | some z =>
            rw [e] at hx
            exact ⟨z, rfl, (Option.some.inj hx).symm⟩
        have hj : j < ps.length := (List.getElem?_eq_some_iff.mp hz).1
        have in8 : ∀ q ∈ own, q.name ∈ ps.take (j + 1) := fun q hq => by
          rw [take_more hz]
          exact List.mem_append_left _ (in6 q hq)
        have ln : ys.length ≤ 3 := by
          have h := dpAll_len dp6
          rw [List.length_map] at h
          omega
        refine ⟨rfl, ?_⟩
        refine ⟨_, rfl, p, L, ns, _, 4, rfl, hP6, (by decide), (by decide), (by omega), fun a1 H7 a10 a11 hP7 b7 => ?_⟩
        have x7 := (b7 O nO).trans x6
        have dp7 := dpTAll_keep (KT.pen hP6 b7.kp) dp6 (own_noL ok6)
        have k7 := k6.trans b7.kp
        refine ⟨rfl, _, rfl, iteB (fun _ => ?_) fun _ => ⟨own, ys, x7, dp7, ok6, nd6, in8, by omega, hP7.up (by omega), k7⟩⟩
        refine ⟨_, rfl, _, rfl, p, L, ns, _, z, rfl, hP7, (by omega), fun v pl' H8 hd hnm hok hP8 k8 => ?_⟩
        have x8 := k8 _ _ x7 nO
        have dp8 := dpTAll_keep (KT.pen hP7 k8) dp7 (own_noL ok6)
        have hP9 : Pen (upd H8 O (.lst (ys ++ [v]))) p L ns (n + 40 + 600 * i + 152 * (j + 1)) := (hP8.keep (upd_ne nO.symm) (upd_ne nLO)).up (by omega)
        have ok9 : ∀ q ∈ own ++ [pl'], OkPl q ∧ nameB q.name = true := fun q hq => by
          rcases List.mem_append.mp hq with hq | hq
          · exact ok6 q hq
          · rw [List.mem_singleton.mp hq]
            exact ⟨hok, by rw [hnm]; exact pnm z (List.mem_of_getElem? hz)⟩
        refine ⟨ys, x8, small1000 (by omega), own ++ [pl'], ys ++ [v], upd_same, ?_, ok9, ?_, fun q hq => ?_, by rw [List.length_append]; show own.length + 1 ≤ _; omega, hP9, ?_⟩
        · rw [List.map_append]
          exact dpTAll_keep (KT.put x8) (dpAll_app dp8 (.cons hd .nil)) (by
            have h := own_noL ok9
            rw [List.map_append] at h
            exact h)
        · rw [List.map_append]
          refine List.nodup_append.mpr ⟨nd6, by simp, fun a ha b hb e => ?_⟩
          obtain ⟨q, hq, eq⟩ := List.mem_map.mp ha
          rw [List.map_cons, List.map_nil, List.mem_singleton] at hb
          have h1 := in6 q hq
          rw [eq, e, hb, hnm] at h1
          exact not_take pn hz h1
        · rcases List.mem_append.mp hq with hq | hq
          · exact in8 q hq
          · rw [List.mem_singleton.mp hq, take_more hz, hnm]
            exact List.mem_append_right _ (List.mem_singleton.mpr rfl)
        · intro b o e nb'
          rw [upd_ne (ne_of_none e hO)]
          exact k8 b o (k7 b o e nb') nb'
      · rintro H6 ⟨own, ys, x6, dp6, ok6, nd6, in6, l6, hP6, k6⟩
        have hP6 : Pen H6 p L ns (n + 40 + 600 * i + 456) := hP6.up (by
          have e : (ps.map V.str).length = 3 := by rw [List.length_map, pl]
          omega)
        have l6 : own.length ≤ 8 := by
          rw [List.length_map, pl] at l6
          omega
        refine ⟨O, _, rfl, .inl ⟨SqL.of x6, fun g hg => ?_⟩⟩
        have sg : Same H6 (upd H6 g (.tup ys)) := same_new hg
        have dg : Dp K (upd H6 g (.tup ys)) (.ref g) (.tuple (own.map PlM.d)) := .tup (SqT.of upd_same) (dpTAll_keep (KT.same sg) dp6 (own_noL ok6))
        have hP7 := hP6.new (o := .tup ys) hg
        have k7 := k6.trans (sameKp (p := p) sg)
        clear sg
        revert dg hP7 k7
        generalize upd H6 g (.tup ys) = H7
        intro dg hP7 k7
        have xD7 := k7 _ _ xD5 nD
        have lx : xs.length ≤ 13 := by
          have h := dpAll_len dp5
          have h2 := pm5.length_eq
          rw [List.length_map] at h h2
          rw [List.length_take] at h2
          omega
        refine ⟨_, rfl, .inl ⟨rfl, _, SqL.of xD7⟩, _, rfl, _, rfl, _, _, rfl, rfl, p, L, ns, _, _, rfl, hP7, (by omega), (by omega), (by omega), fun a3 H8 a30 a31 hP8 b8 => ?_⟩
        have k8 := k7.trans b8.kp
        have dg8 := dpT_keep (KT.pen hP7 b8.kp) dg (by simp only [noL, own_noL ok6])
        have fin : ∀ oz : Option Str, (∀ z, oz = some z → ∃ j, zs[j]? = some z ∧ j < i) → ∀ t, H8 t = none → (upd H8 t (.tup [V.str zi, ovD oz, V.ref g])) D = some (.lst xs) ∧ ∃ (ms' : List MaM) (xs' : List V),
            (upd (upd H8 t (.tup [V.str zi, ovD oz, V.ref g])) D (.lst (ins xs a3.toNat (V.ref t)))) D = some (.lst xs') ∧ DpAll K (upd (upd H8 t (.tup [V.str zi, ovD oz, V.ref g])) D (.lst (ins xs a3.toNat (V.ref t)))) xs' (ms'.map MaM.d) ∧ (∀ m ∈ ms', OkMa m) ∧ (ms'.map (·.name)).Perm (zs.take (i + 1)) ∧ Ahead zs (i + 1) ms' ∧
            Pen (upd (upd H8 t (.tup [V.str zi, ovD oz, V.ref g])) D (.lst (ins xs a3.toNat (V.ref t)))) p L ns (n + 40 + 600 * (i + 1)) ∧ Kp p H (upd (upd H8 t (.tup [V.str zi, ovD oz, V.ref g])) D (.lst (ins xs a3.toNat (V.ref t)))) ∧
            (upd (upd H8 t (.tup [V.str zi, ovD oz, V.ref g])) D (.lst (ins xs a3.toNat (V.ref t)))) c = some (.lst (zs.map V.str)) ∧ (upd (upd H8 t (.tup [V.str zi, ovD oz, V.ref g])) D (.lst (ins xs a3.toNat (V.ref t)))) c2 = some (.lst (ps.map V.str)) := by
          intro oz hoz t ht
          have st : Same H8 (upd H8 t (.tup [V.str zi, ovD oz, V.ref g])) := same_new ht
          have xt : (upd H8 t (.tup [V.str zi, ovD oz, V.ref g])) t = some (.tup [V.str zi, ovD oz, V.ref g]) := upd_same
          have dg2 := dpT_keep (KT.same st) dg8 (by simp only [noL, own_noL ok6])
          have hP10 := hP8.new (o := .tup [V.str zi, ovD oz, V.ref g]) ht
          have k10 := k8.trans (sameKp (p := p) st)
          clear st
          revert xt dg2 hP10 k10
          generalize upd H8 t (.tup [V.str zi, ovD oz, V.ref g]) = H10
          intro xt dg2 hP10 k10
          have okm : OkMa ⟨zi, oz, own⟩ := ⟨nb zi (List.mem_of_getElem? hzi), ok6, nd6, l6⟩
          have dt : Dp K H10 (.ref t) (MaM.d ⟨zi, oz, own⟩) := by
            refine .tup (SqT.of xt) (.cons (.str zi) (.cons ?_ (.cons dg2 .nil)))
            cases oz with
            | none => exact .non
            | some z => exact .str z
          have xD10 := k10 _ _ xD5 nD
          have dp10 := dpTAll_keep (KT.pen hP5 k10) dp5 (mas_noL ok5)
          have ok11 : ∀ m ∈ ins ms a3.toNat ⟨zi, oz, own⟩, OkMa m := fun m hm => by
            rcases ins_mem.mp hm with rfl | hm
            · exact okm
            · exact ok5 m hm
          have hP11 : Pen (upd H10 D (.lst (ins xs a3.toNat (V.ref t)))) p L ns (n + 40 + 600 * (i + 1)) := (hP10.keep (upd_ne nD.symm) (upd_ne nLD)).up (by omega)
          refine ⟨xD10, ins ms a3.toNat ⟨zi, oz, own⟩, ins xs a3.toNat (.ref t), upd_same, ?_, ok11, ?_, fun m hm z ez => ?_, hP11, fun b o e nb' => ?_, ?_, ?_⟩
          · rw [ins_map]
            exact dpTAll_keep (KT.put xD10) (ins_dp a3.toNat dp10 dt) (by rw [← ins_map]; exact mas_noL ok11)
          · rw [ins_map, take_more hzi]
            exact (ins_perm.trans (pm5.cons zi)).trans (List.perm_append_comm (l₁ := [zi]) (l₂ := zs.take i))
          · rcases ins_mem.mp hm with rfl | hm
            · obtain ⟨j, ej, hj⟩ := hoz z ez
              exact ⟨j, i, ej, hzi, hj, by omega⟩
            · obtain ⟨j, k, ej, ek, jk, ki⟩ := ah5 m hm z ez
              exact ⟨j, k, ej, ek, jk, by omega⟩
          · rw [upd_ne (away e nb')]
            exact k10 b o (k5 b o e nb') nb'
          · rw [upd_ne ncD]
            exact k10 _ _ xc5 n_c
          · rw [upd_ne npD]
            exact k10 _ _ xp5 np
        refine ⟨_, rfl, _, rfl, c, _, _, .str zi, rfl, rfl, SqL.of (k8 _ _ xc5 n_c), at_any (j := i) (by omega) (by rw [List.getElem?_map, hzi] <;> rfl), ?_⟩
        refine ⟨_, rfl, _, _, rfl, rfl, _, rfl, iteB (fun h1 => ?_) fun _ => ?_⟩
        · have ipos : 0 < i := by
            have := of_decide_eq_true h1
            omega
          obtain ⟨zj, ej⟩ : ∃ z, zs[i - 1]? = some z := ⟨_, List.getElem?_eq_getElem (by omega)⟩
          refine ⟨_, rfl, _, rfl, _, _, rfl, rfl, c, _, _, .str zj, rfl, rfl, SqL.of (k8 _ _ xc5 n_c), at_any (j := i - 1) (by omega) (by rw [List.getElem?_map, ej] <;> rfl), _, rfl, (by show 3 ≤ sizeLine; decide), fun t ht => ?_⟩
          obtain ⟨hD', ms', xs', h⟩ := fin (some zj) (fun z e => by cases e; exact ⟨i - 1, ej, by omega⟩) t ht
          refine ⟨D, xs, a3, _, rfl, rfl, hD', small1000 (by omega), a30, (by omega), ?_⟩
          rw [ins_eq]
          exact ⟨_, _, _, ms', xs', rfl, h⟩
        · refine ⟨_, rfl, (by show 3 ≤ sizeLine; decide), fun t ht => ?_⟩
          obtain ⟨hD', ms', xs', h⟩ := fin none (fun z e => (nomatch e)) t ht
          refine ⟨D, xs, a3, _, rfl, rfl, hD', small1000 (by omega), a30, (by omega), ?_⟩
          rw [ins_eq]
          exact ⟨_, _, _, ms', xs', rfl, h⟩
    · rintro σ H5 ⟨v4, v5, v6, ms, xs, rfl, xD5, dp5, ok5, pm5, ah5, hP5, k5, _, _⟩
      have eN : ((zs.map V.str).length : Int).toNat = zs.length := by rw [List.length_map]; omega
      rw [eN] at pm5 ah5 hP5
      rw [List.take_length] at pm5
      have okM : OkMs ms := made_ok nd (by omega) ok5 pm5 ah5
      refine ⟨_, rfl, D, _, rfl, .inl ⟨SqL.of xD5, fun g hg => ?_⟩⟩
      exact q _ ms _ (.tup (SqT.of upd_same) (dpTAll_keep (KT.same (same_new hg)) dp5 (mas_noL ok5))) okM ((hP5.new hg).up (by omega)) (k5.trans (Kp.new hg))

theorem ok_wide {f : Addr} {fd : FuncData} (F : FnP K "_law_wide" slaw_wide f fd) (T : Txt mg) (D_law_draw : Dn P w K mg base 1 "_law_draw" ["pen", "many"] spDraw) (D_law_names : Dn P w K mg base 2 "_law_names" ["pen", "many"] spNames) (D_law_place : Dn P w K mg base 4 "_law_place" ["pen", "name"] (spPlaceL K)) :
    FnOk P w K mg base CX0 5 f fd ["pen"] (spMade K) := by
  refine okN F sclaw_wide (fun vs H Q E h => ?_) (fun cdv A outer s H vs Q E hr h => ?_)
  · obtain ⟨p, L, ns, n, rfl, _⟩ := h
    rfl
  · obtain ⟨p, L, ns, n, rfl, hP, hn, q⟩ := h
    refine ⟨_, (pss_cons (ps_par3 (i := 1) (j := 2) (l := 3) (by rfl) sclaw_wide.nd rfl rfl rfl (by decide) (by decide) (by decide) rfl rfl rfl (pa_cons (pe_dn D_law_names (hr.mono (by decide)) rfl (pa_cons (pv 0) (pa_cons pe_int pa_nil))) (pa_cons (pe_dn D_law_names (hr.mono (by decide)) rfl (pa_cons (pv 0) (pa_cons pe_int pa_nil))) (pa_cons (pe_lst pa_nil) pa_nil))) (by rfl))
      (pss_cons (ps_for PassesOwn.never rfl (pi_range1 rfl T.m_range (pa_cons pe_int pa_nil)) (pg_name (i := 4) sclaw_wide.nd rfl (Or.inl rfl)) (pss_cons (ps_set (i := 5) sclaw_wide.nd rfl (Or.inl rfl) (pe_callTy call_tuple_of (by rfl) T.m_tuple (by decide +kernel) (pa_cons (pe_lc (own := [("place", 6)]) (g := gName 6) (by rfl) sclaw_wide.nd (pi_list (pe_slice sl_list (pv 2) (po_some (pe_op op_mul pe_int (pv 4))) (po_some (pe_op op_add (pe_op op_mul pe_int (pv 4)) pe_int)))) (blkOk_by (own := [("place", 6)]) (N := ["pen", "names", "places", "made", "k", "own", "place"]) (sc := defScope slaw_wide) (by decide +kernel)) (fun _ _ _ _ _ => (pg_name (i := 6) sclaw_wide.nd rfl (Or.inl rfl))) (fun _ _ _ _ _ => pts_nil) (fun _ _ _ _ _ => (pe_dn D_law_place (hr.mono (by decide)) rfl (pa_cons (pv 0) (pa_cons (pv 6) pa_nil))))) pa_nil)))
      (pss_one (ps_expr (pe_bm PySem.F.plainAttrs_list PySem.F.slot_list_insert PySem.F.type_list_insert mt_insert (pv 3) (pa_cons (pe_dn D_law_draw (hr.mono (by decide)) rfl (pa_cons (pv 0) (pa_cons (pe_op op_add (pv 4) pe_int) pa_nil))) (pa_cons (pe_tup (pa_cons (pe_ix ix_list (pv 1) (pv 4) (fun _ _ => rfl)) (pa_cons (pe_ifExp (pt_cmpR op_gt (pv 4) pe_int (nomark _)) (pe_ix ix_list (pv 1) (pe_op op_sub (pv 4) pe_int) (fun _ _ => rfl)) pe_non) (pa_cons (pv 5) pa_nil)))) pa_nil)))))))
      (pss_one (ps_ret (pe_callTy call_tuple_of (by rfl) T.m_tuple (by decide +kernel) (pa_cons (pv 3) pa_nil)))))), ?_⟩
    refine ⟨_, rfl, p, L, ns, n, 3, rfl, (by decide), hP, (by omega), fun c zs H2 xc hl nd nb n_c nc hP2 k2 => ?_⟩
    refine ⟨_, rfl, p, L, ns, _, 24, rfl, (by decide), hP2, (by omega), fun c2 ps H3 xp pl pn pnm np nc2 hP3 k3 => ?_⟩
    have xc3 := k3 _ _ xc n_c
    have kk3 : Kp p H H3 := k2.trans k3
    refine ⟨(by show 0 ≤ sizeLine; decide), fun D hD => ⟨_, _, _, rfl, ?_⟩⟩
    have nD : D ≠ p := hP3.lt_new hD
    have nLD : L ≠ D := ne_of_none hP3.ls hD
    have ncD : c ≠ D := ne_of_none xc3 hD
    have npD : c2 ≠ D := ne_of_none xp hD
    have away : ∀ {b : Addr} {o : HO}, H b = some o → b ≠ p → b ≠ D := fun {b o} e nb => ne_of_none (kk3 b o e nb) hD
    have xD : (upd H3 D (.lst [])) D = some (.lst []) := upd_same
    have xc4 : (upd H3 D (.lst [])) c = _ := (upd_ne ncD).trans xc3
    have xp4 : (upd H3 D (.lst [])) c2 = _ := (upd_ne npD).trans xp
    have hP4 := hP3.new (o := .lst []) hD
    have k4 : Kp p H (upd H3 D (.lst [])) := kk3.trans (Kp.new hD)
    revert xD xc4 xp4 hP4 k4
    generalize upd H3 D (.lst []) = H4
    intro xD xc4 xp4 hP4 k4
    refine ⟨(3 : Int), rfl, (by decide), (by decide), ?_⟩
    refine for_range (lo := 0) (n := (3 : Int).toNat) (fun i σ H5 => ∃ (v4 v5 v6 : Option V) (ms : List MaM) (xs : List V), σ = [some (.ref p), some (.ref c), some (.ref c2), some (.ref D), v4, v5, v6] ∧
      H5 D = some (.lst xs) ∧ DpAll K H5 xs (ms.map MaM.d) ∧ (∀ m ∈ ms, OkMa m) ∧ (ms.map (·.name)).Perm (zs.take i) ∧ Ahead zs i ms ∧ Pen H5 p L ns (n + 60 + 1300 * i) ∧ Kp p H H5 ∧ H5 c = some (.lst (zs.map V.str)) ∧ H5 c2 = some (.lst (ps.map V.str))) ?_ ?_ ?_
    · exact ⟨none, none, none, [], [], rfl, xD, .nil, fun m hm => (nomatch hm), .refl _, fun m hm => (nomatch hm), hP4.up (by omega), k4, xc4, xp4⟩
    · rintro i σ H5 hi ⟨v4, v5, v6, ms, xs, rfl, xD5, dp5, ok5, pm5, ah5, hP5, k5, xc5, xp5⟩
      have hi : i < zs.length := by
        have e : (3 : Int).toNat = 3 := rfl
        omega
      obtain ⟨zi, hzi⟩ : ∃ z, zs[i]? = some z := ⟨_, List.getElem?_eq_getElem hi⟩
      refine ⟨_, rfl, _, rfl, _, _, rfl, rfl, .inl ⟨by decide, by decide⟩, _, rfl, _, rfl, _, _, rfl, rfl, .inl ⟨by decide, by decide⟩, _, _, rfl, rfl, _, rfl, c2, _, rfl, SqL.of xp5, fun c3 hc3 => ?_⟩
      obtain ⟨qs, eqs, subq, lq⟩ : ∃ qs : List Str, cutV (ps.map V.str) (some (8 * (0 + (i : Int)))) (some (8 * (0 + (i : Int)) + 8)) = qs.map V.str ∧ qs.Sublist ps ∧ qs.length ≤ 8 := by
        refine ⟨(ps.drop (8 * i)).take 8, ?_, (List.take_sublist _ _).trans (List.drop_sublist _ _), by rw [List.length_take]; omega⟩
        have e1 : (8 * (0 + (i : Int))) = ((8 * i : Nat) : Int) := by omega
        have e2 : (8 * (0 + (i : Int)) + 8) = ((8 * i + 8 : Nat) : Int) := by omega
        rw [e2, e1]
        unfold cutV
        rw [show HT.sIx (ps.map V.str).length 0 (some ((8 * i : Nat) : Int)) = min (8 * i) (ps.map V.str).length from HT.sIx_nat _ _ _, show HT.sIx (ps.map V.str).length (ps.map V.str).length (some ((8 * i + 8 : Nat) : Int)) = min (8 * i + 8) (ps.map V.str).length from HT.sIx_nat _ _ _, List.length_map, pl, List.map_take, List.map_drop]
        have i3 : i < 3 := by omega
        rw [show min (8 * i) 24 = 8 * i by omega, show min (8 * i + 8) 24 = 8 * i + 8 by omega, show 8 * i + 8 - 8 * i = 8 by omega]
      rw [eqs]
      have qn : qs.Nodup := subq.nodup pn
      have qnm : ∀ z ∈ qs, nameB z = true := fun z hz => pnm z (subq.subset hz)
      have n_c3 : c3 ≠ p := hP5.lt_new hc3
      have s5 : Same H5 (upd H5 c3 (.lst (qs.map V.str))) := same_new hc3
      have xq5 : (upd H5 c3 (.lst (qs.map V.str))) c3 = some (.lst (qs.map V.str)) := upd_same
      have hP5 := hP5.new (o := .lst (qs.map V.str)) hc3
      have k5 := k5.trans (sameKp (p := p) s5)
      have xD5 := s5 _ _ xD5
      have xc5 := s5 _ _ xc5
      have xp5 := s5 _ _ xp5
      have dp5 := dpTAll_keep (KT.same s5) dp5 (mas_noL ok5)
      revert xq5 hP5 k5 xD5 xc5 xp5 dp5
      generalize upd H5 c3 (.lst (qs.map V.str)) = H5'
      clear s5 hc3
      intro xq5 hP5 k5 xD5 xc5 xp5 dp5
      refine ⟨c3, rfl, ⟨_, SqL.of xq5⟩, fun O hO => ?_⟩
      have nO : O ≠ p := hP5.lt_new hO
      have nLO : L ≠ O := ne_of_none hP5.ls hO
      refine lc_list (K := K) (a := c3) (xs := qs.map V.str) (fun j H6 => ∃ (own : List PlM) (ys : List V), H6 O = some (.lst ys) ∧ DpAll K H6 ys (own.map PlM.d) ∧ (∀ q ∈ own, OkPl q ∧ nameB q.name = true) ∧ (own.map (·.name)).Nodup ∧ (∀ q ∈ own, q.name ∈ qs.take j) ∧ own.length ≤ j ∧ Pen H6 p L ns (n + 60 + 1300 * i + 152 * j) ∧ Kp p H5' H6) ?_ ?_ ?_ ?_
      · exact ⟨[], [], upd_same, .nil, fun q hq => (nomatch hq), List.nodup_nil, fun q hq => (nomatch hq), Nat.le_refl _, hP5.new hO, Kp.new hO⟩
      · rintro j H6 hj ⟨own, ys, _, _, _, _, _, _, _, k6⟩
        exact SqL.of (k6 _ _ xq5 n_c3)
      · rintro j x H6 hx ⟨own, ys, x6, dp6, ok6, nd6, in6, l6, hP6, k6⟩
        obtain ⟨z, hz, rfl⟩ : ∃ z, qs[j]? = some z ∧ x = V.str z := by
          rw [List.getElem?_map] at hx
          cases e : qs[j]? with
          | none =>
            rw [e] at hx
            cases hx
          | some z =>
            rw [e] at hx
            exact ⟨z, rfl, (Option.some.inj hx).symm⟩
        have hj : j < qs.length := (List.getElem?_eq_some_iff.mp hz).1
        have in8 : ∀ q ∈ own, q.name ∈ qs.take (j + 1) := fun q hq => by
          rw [take_more hz]
          exact List.mem_append_left _ (in6 q hq)
        have ln : ys.length ≤ 8 := by
          have h := dpAll_len dp6
          rw [List.length_map] at h
          omega
        refine ⟨rfl, ?_⟩
        have x7 := x6
        have dp7 := dp6
        have k7 := k6
        have hP7 := hP6
        refine ⟨_, rfl, _, rfl, p, L, ns, _, z, rfl, hP7, (by omega), fun v pl' H8 hd hnm hok hP8 k8 => ?_⟩
        have x8 := k8 _ _ x7 nO
        have dp8 := dpTAll_keep (KT.pen hP7 k8) dp7 (own_noL ok6)
        have hP9 : Pen (upd H8 O (.lst (ys ++ [v]))) p L ns (n + 60 + 1300 * i + 152 * (j + 1)) := (hP8.keep (upd_ne nO.symm) (upd_ne nLO)).up (by omega)
        have ok9 : ∀ q ∈ own ++ [pl'], OkPl q ∧ nameB q.name = true := fun q hq => by
          rcases List.mem_append.mp hq with hq | hq
          · exact ok6 q hq
          · rw [List.mem_singleton.mp hq]
            exact ⟨hok, by rw [hnm]; exact qnm z (List.mem_of_getElem? hz)⟩
        refine ⟨ys, x8, small1000 (by omega), own ++ [pl'], ys ++ [v], upd_same, ?_, ok9, ?_, fun q hq => ?_, by rw [List.length_append]; show own.length + 1 ≤ _; omega, hP9, ?_⟩
        · rw [List.map_append]
          exact dpTAll_keep (KT.put x8) (dpAll_app dp8 (.cons hd .nil)) (by
            have h := own_noL ok9
            rw [List.map_append] at h
            exact h)
        · rw [List.map_append]
          refine List.nodup_append.mpr ⟨nd6, by simp, fun a ha b hb e => ?_⟩
          obtain ⟨q, hq, eq⟩ := List.mem_map.mp ha
          rw [List.map_cons, List.map_nil, List.mem_singleton] at hb
          have h1 := in6 q hq
          rw [eq, e, hb, hnm] at h1
          exact not_take qn hz h1
        · rcases List.mem_append.mp hq with hq | hq
          · exact in8 q hq
          · rw [List.mem_singleton.mp hq, take_more hz, hnm]
            exact List.mem_append_right _ (List.mem_singleton.mpr rfl)
        · intro b o e nb'
          rw [upd_ne (ne_of_none e hO)]
          exact k8 b o (k7 b o e nb') nb'
      · rintro H6 ⟨own, ys, x6, dp6, ok6, nd6, in6, l6, hP6, k6⟩
        have hP6 : Pen H6 p L ns (n + 60 + 1300 * i + 1216) := hP6.up (by
          have e : (qs.map V.str).length = qs.length := List.length_map ..
          omega)
        have l6 : own.length ≤ 8 := by
          rw [List.length_map] at l6
          omega
        refine ⟨O, _, rfl, .inl ⟨SqL.of x6, fun g hg => ?_⟩⟩
        have sg : Same H6 (upd H6 g (.tup ys)) := same_new hg
        have dg : Dp K (upd H6 g (.tup ys)) (.ref g) (.tuple (own.map PlM.d)) := .tup (SqT.of upd_same) (dpTAll_keep (KT.same sg) dp6 (own_noL ok6))
        have hP7 := hP6.new (o := .tup ys) hg
        have k7 := k6.trans (sameKp (p := p) sg)
        clear sg
        revert dg hP7 k7
        generalize upd H6 g (.tup ys) = H7
        intro dg hP7 k7
        have xD7 := k7 _ _ xD5 nD
        have lx : xs.length ≤ 13 := by
          have h := dpAll_len dp5
          have h2 := pm5.length_eq
          rw [List.length_map] at h h2
          rw [List.length_take] at h2
          omega
        refine ⟨_, rfl, .inl ⟨rfl, _, SqL.of xD7⟩, _, rfl, _, rfl, _, _, rfl, rfl, p, L, ns, _, _, rfl, hP7, (by omega), (by omega), (by omega), fun a3 H8 a30 a31 hP8 b8 => ?_⟩
        have k8 := k7.trans b8.kp
        have dg8 := dpT_keep (KT.pen hP7 b8.kp) dg (by simp only [noL, own_noL ok6])
        have fin : ∀ oz : Option Str, (∀ z, oz = some z → ∃ j, zs[j]? = some z ∧ j < i) → ∀ t, H8 t = none → (upd H8 t (.tup [V.str zi, ovD oz, V.ref g])) D = some (.lst xs) ∧ ∃ (ms' : List MaM) (xs' : List V),
            (upd (upd H8 t (.tup [V.str zi, ovD oz, V.ref g])) D (.lst (ins xs a3.toNat (V.ref t)))) D = some (.lst xs') ∧ DpAll K (upd (upd H8 t (.tup [V.str zi, ovD oz, V.ref g])) D (.lst (ins xs a3.toNat (V.ref t)))) xs' (ms'.map MaM.d) ∧ (∀ m ∈ ms', OkMa m) ∧ (ms'.map (·.name)).Perm (zs.take (i + 1)) ∧ Ahead zs (i + 1) ms' ∧
            Pen (upd (upd H8 t (.tup [V.str zi, ovD oz, V.ref g])) D (.lst (ins xs a3.toNat (V.ref t)))) p L ns (n + 60 + 1300 * (i + 1)) ∧ Kp p H (upd (upd H8 t (.tup [V.str zi, ovD oz, V.ref g])) D (.lst (ins xs a3.toNat (V.ref t)))) ∧
            (upd (upd H8 t (.tup [V.str zi, ovD oz, V.ref g])) D (.lst (ins xs a3.toNat (V.ref t)))) c = some (.lst (zs.map V.str)) ∧ (upd (upd H8 t (.tup [V.str zi, ovD oz, V.ref g])) D (.lst (ins xs a3.toNat (V.ref t)))) c2 = some (.lst (ps.map V.str)) := by
          intro oz hoz t ht
          have st : Same H8 (upd H8 t (.tup [V.str zi, ovD oz, V.ref g])) := same_new ht
          have xt : (upd H8 t (.tup [V.str zi, ovD oz, V.ref g])) t = some (.tup [V.str zi, ovD oz, V.ref g]) := upd_same
          have dg2 := dpT_keep (KT.same st) dg8 (by simp only [noL, own_noL ok6])
          have hP10 := hP8.new (o := .tup [V.str zi, ovD oz, V.ref g]) ht
          have k10 := k8.trans (sameKp (p := p) st)
          clear st
          revert xt dg2 hP10 k10
          generalize upd H8 t (.tup [V.str zi, ovD oz, V.ref g]) = H10
          intro xt dg2 hP10 k10
          have okm : OkMa ⟨zi, oz, own⟩ := ⟨nb zi (List.mem_of_getElem? hzi), ok6, nd6, l6⟩
          have dt : Dp K H10 (.ref t) (MaM.d ⟨zi, oz, own⟩) := by
            refine .tup (SqT.of xt) (.cons (.str zi) (.cons ?_ (.cons dg2 .nil)))
            cases oz with
            | none => exact .non
            | some z => exact .str z
          have xD10 := k10 _ _ xD5 nD
          have dp10 := dpTAll_keep (KT.pen hP5 k10) dp5 (mas_noL ok5)
          have ok11 : ∀ m ∈ ins ms a3.toNat ⟨zi, oz, own⟩, OkMa m := fun m hm => by
            rcases ins_mem.mp hm with rfl | hm
            · exact okm
            · exact ok5 m hm
          have hP11 : Pen (upd H10 D (.lst (ins xs a3.toNat (V.ref t)))) p L ns (n + 60 + 1300 * (i + 1)) := (hP10.keep (upd_ne nD.symm) (upd_ne nLD)).up (by omega)
          refine ⟨xD10, ins ms a3.toNat ⟨zi, oz, own⟩, ins xs a3.toNat (.ref t), upd_same, ?_, ok11, ?_, fun m hm z ez => ?_, hP11, fun b o e nb' => ?_, ?_, ?_⟩
          · rw [ins_map]
            exact dpTAll_keep (KT.put xD10) (ins_dp a3.toNat dp10 dt) (by rw [← ins_map]; exact mas_noL ok11)
          · rw [ins_map, take_more hzi]
            exact (ins_perm.trans (pm5.cons zi)).trans (List.perm_append_comm (l₁ := [zi]) (l₂ := zs.take i))
          · rcases ins_mem.mp hm with rfl | hm
            · obtain ⟨j, ej, hj⟩ := hoz z ez
              exact ⟨j, i, ej, hzi, hj, by omega⟩
            · obtain ⟨j, k, ej, ek, jk, ki⟩ := ah5 m hm z ez
              exact ⟨j, k, ej, ek, jk, by omega⟩
          · rw [upd_ne (away e nb')]
            exact k10 b o (k5 b o e nb') nb'
          · rw [upd_ne ncD]
            exact k10 _ _ xc5 n_c
          · rw [upd_ne npD]
            exact k10 _ _ xp5 np
        refine ⟨_, rfl, _, rfl, c, _, _, .str zi, rfl, rfl, SqL.of (k8 _ _ xc5 n_c), at_any (j := i) (by omega) (by rw [List.getElem?_map, hzi] <;> rfl), ?_⟩
        refine ⟨_, rfl, _, _, rfl, rfl, _, rfl, iteB (fun h1 => ?_) fun _ => ?_⟩
        · have ipos : 0 < i := by
            have := of_decide_eq_true h1
            omega
          obtain ⟨zj, ej⟩ : ∃ z, zs[i - 1]? = some z := ⟨_, List.getElem?_eq_getElem (by omega)⟩
          refine ⟨_, rfl, _, rfl, _, _, rfl, rfl, c, _, _, .str zj, rfl, rfl, SqL.of (k8 _ _ xc5 n_c), at_any (j := i - 1) (by omega) (by rw [List.getElem?_map, ej] <;> rfl), _, rfl, (by show 3 ≤ sizeLine; decide), fun t ht => ?_⟩
          obtain ⟨hD', ms', xs', h⟩ := fin (some zj) (fun z e => by cases e; exact ⟨i - 1, ej, by omega⟩) t ht
          refine ⟨D, xs, a3, _, rfl, rfl, hD', small1000 (by omega), a30, (by omega), ?_⟩
          rw [ins_eq]
          exact ⟨_, _, _, ms', xs', rfl, h⟩
        · refine ⟨_, rfl, (by show 3 ≤ sizeLine; decide), fun t ht => ?_⟩
          obtain ⟨hD', ms', xs', h⟩ := fin none (fun z e => (nomatch e)) t ht
          refine ⟨D, xs, a3, _, rfl, rfl, hD', small1000 (by omega), a30, (by omega), ?_⟩
          rw [ins_eq]
          exact ⟨_, _, _, ms', xs', rfl, h⟩
    · rintro σ H5 ⟨v4, v5, v6, ms, xs, rfl, xD5, dp5, ok5, pm5, ah5, hP5, k5, _, _⟩
      have eN : (3 : Int).toNat = zs.length := by rw [hl] <;> rfl
      rw [eN] at pm5 ah5 hP5
      rw [List.take_length] at pm5
      have okM : OkMs ms := made_ok nd (by omega) ok5 pm5 ah5
      refine ⟨_, rfl, D, _, rfl, .inl ⟨SqL.of xD5, fun g hg => ?_⟩⟩
      exact q _ ms _ (.tup (SqT.of upd_same) (dpTAll_keep (KT.same (same_new hg)) dp5 (mas_noL ok5))) okM ((hP5.new hg).up (by omega)) (k5.trans (Kp.new hg))

end
end K6

set_option Elab.async false
set_option linter.all false
set_option maxRecDepth 100000
set_option maxHeartbeats 2000000
namespace K6
open PySem PySem.Spec PyProof.Rows L2 GxR Gx Gd Gn Gm Gc Gk
abbrev slaw_chain : Stmt := top 33
theorem sclaw_chain : FnScope ["masters", "name", "found", "master", "one"] ["masters", "name"] (defScope slaw_chain) := ⟨rfl, rfl, rfl, by decide +kernel, rfl, by decide +kernel, by decide +kernel⟩
abbrev slaw_there : Stmt := top 34
theorem sclaw_there : FnScope ["masters", "name", "found", "master", "one"] ["masters", "name"] (defScope slaw_there) := ⟨rfl, rfl, rfl, by decide +kernel, rfl, by decide +kernel, by decide +kernel⟩
abbrev slaw_same : Stmt := top 32
theorem sclaw_same : FnScope ["found", "due", "one", "other"] ["found", "due"] (defScope slaw_same) := ⟨rfl, rfl, rfl, by decide +kernel, rfl, by decide +kernel, by decide +kernel⟩
abbrev slaw_set : Stmt := top 35
theorem sclaw_set : FnScope ["masters", "name", "place", "trait", "master", "one", "setting"] ["masters", "name", "place", "trait"] (defScope slaw_set) := ⟨rfl, rfl, rfl, by decide +kernel, rfl, by decide +kernel, by decide +kernel⟩
abbrev slaw_told_lines : Stmt := top 36
theorem sclaw_told_lines : FnScope ["masters", "name", "place", "master", "one"] ["masters", "name", "place"] (defScope slaw_told_lines) := ⟨rfl, rfl, rfl, by decide +kernel, rfl, by decide +kernel, by decide +kernel⟩
section
variable {P : Program} {w : World} {K : PySem.W.Frag} {mg : Str → Option Value} {base : Heap}
/-! ### the law's own chain -/
theorem ok_chainL {f : Addr} {fd : FuncData} (F : FnP K "_law_chain" slaw_chain f fd) (T : Txt mg) : FnOk P w K mg base CX0 1 f fd ["masters", "name"] (spMsL K (RChn K)) := by
  refine okN F sclaw_chain (fun vs H Q E h => ?_) (fun cdv A outer s H vs Q E hr h => ?_)
  · obtain ⟨v, z, ms, rfl, _⟩ := h
    rfl
  · obtain ⟨v, z, ms, rfl, hv, ok, hz, q⟩ := h
    refine ⟨_, (pss_cons (ps_set (i := 2) sclaw_chain.nd rfl (Or.inl rfl) (pe_lst pa_nil))
      (pss_cons (ps_while PassesOwn.never (pt_cmpR op_notN (pv 1) pe_non (nomark _)) (pss_cons (ps_set (i := 3) sclaw_chain.nd rfl (Or.inl rfl) (pe_ix ix_list (pe_lc (own := [("one", 4)]) (g := gName 4) (by rfl) sclaw_chain.nd (pi_tup (pv 0)) (blkOk_by (own := [("one", 4)]) (N := ["masters", "name", "found", "master", "one"]) (sc := defScope slaw_chain) (by decide +kernel)) (fun _ _ _ _ _ => (pg_name (i := 4) sclaw_chain.nd rfl (Or.inl rfl))) (fun _ _ _ _ _ => (pts_one (pt_cmpR op_eq (pe_ix (r := rIxT K) ix_tup (pv 4) pe_int (fun _ _ => rfl)) (pv 1) (nomark _)))) (fun _ _ _ _ _ => (pv 4))) pe_int (fun _ _ => rfl)))
      (pss_cons (ps_expr (pe_bm PySem.F.plainAttrs_list PySem.F.slot_list_append PySem.F.type_list_append mt_append (pv 2) (pa_cons (pv 3) pa_nil)))
      (pss_one (ps_set (i := 1) sclaw_chain.nd rfl (Or.inr rfl) (pe_ix ix_tup (pv 3) pe_int (fun _ _ => rfl)))))))
      (pss_one (ps_ret (pv 2))))), ?_⟩
    obtain ⟨a, rs, rfl, sa, da⟩ := dp_tup hv
    have nl : noLAll (ms.map MaM.d) = true := mas_noL ok.all
    refine ⟨(by show 0 ≤ sizeLine; decide), fun D hD => ?_⟩
    refine ⟨fun n σ H1 => ∃ (o : Option Str) (v3 v4 : Option V) (l rest : List MaM) (xs : List V), σ = [some (.ref a), some (ovD o), some (.ref D), v3, v4] ∧ Same H H1 ∧ H1 D = some (.lst xs) ∧ DpAll K H1 xs (l.map MaM.d) ∧ chn ms z = l ++ rest ∧
      (match o with
        | none => rest = []
        | some y => (∃ m ∈ ms, m.name = y) ∧ rest = chn ms y) ∧ n = rest.length, ⟨_, some z, none, none, [], chn ms z, [], rfl, same_new hD, upd_same, .nil, rfl, ⟨hz, rfl⟩, rfl⟩, ?_⟩
    rintro n σ H1 ⟨o, v3, v4, l, rest, xs, rfl, s1, x1, d1, e1, ho, rfl⟩
    cases o with
    | none =>
      have er : rest = [] := ho
      rw [er, List.append_nil] at e1
      refine ⟨_, rfl, rfl, _, rfl, iteF ⟨_, rfl, ?_⟩⟩
      exact q D H1 s1 hD ⟨xs, x1, by rw [e1]; exact d1⟩
    | some y =>
      obtain ⟨hy, er⟩ : (∃ m ∈ ms, m.name = y) ∧ rest = chn ms y := ho
      obtain ⟨m, hm⟩ := fnd_of hy
      have es := chn_step ok hm
      rw [← er] at es
      have lr : l.length + rest.length ≤ 20 := by
        have h := chn_len ms z
        rw [e1, List.length_append] at h
        exact h
      refine ⟨_, rfl, rfl, _, rfl, iteT ⟨fun σ' H' => ∃ n', n' < rest.length ∧ ∃ (o : Option Str) (v3 v4 : Option V) (l' rest' : List MaM) (xs : List V), σ' = [some (.ref a), some (ovD o), some (.ref D), v3, v4] ∧ Same H H' ∧ H' D = some (.lst xs) ∧ DpAll K H' xs (l'.map MaM.d) ∧ chn ms z = l' ++ rest' ∧
        (match o with
          | none => rest' = []
          | some y => (∃ m ∈ ms, m.name = y) ∧ rest' = chn ms y) ∧ n' = rest'.length, fun σ' H' h => h, ?_⟩⟩
      have sa1 := sqT_same s1 sa
      refine ⟨_, rfl, a, rfl, ⟨_, sa1⟩, fun D2 hD2 => ?_⟩
      have nD : D ≠ D2 := ne_of_none x1 hD2
      refine lc_tup (K := K) (a := a) (xs := rs) (fun i H3 => Same H H3 ∧ H3 D = some (.lst xs) ∧ KT K H1 H3 ∧ ∃ ys, H3 D2 = some (.lst ys) ∧ DpAll K H3 ys (((ms.take i).filter fun m => decide (m.name = y)).map MaM.d)) ?_ (fun i H3 _ h => sqT_same h.1 sa) ?_ ?_
      · have s2 := same_new (o := .lst []) hD2
        exact ⟨s1.trans s2, s2 _ _ x1, KT.same s2, [], upd_same, .nil⟩
      · rintro i x H3 hi ⟨s3, x3, kt3, ys, y3, dy⟩
        have hi' : i < 1000 := by
          have h1 := (List.getElem?_eq_some_iff.mp hi).1
          have h2 := dpAll_len da
          rw [List.length_map] at h2
          have h3 := ok.few
          omega
        obtain ⟨r, er, hr'⟩ := at_rec da hi
        have hr3 := dpT_keep (KT.same s3) hr' ((ok.all r (List.mem_of_getElem? er)).noL)
        obtain ⟨c, g, ps, rfl, sc, sg, dg⟩ := ma_at hr3
        refine ⟨rfl, ?_⟩
        refine ⟨_, rfl, c, _, 0, .str r.name, rfl, rfl, sc, rfl, _, rfl, rfl, _, rfl, ?_⟩
        have lf : ys.length < 1000 := by
          have h1 := dpAll_len dy
          rw [List.length_map] at h1
          have h2 := List.length_filter_le (fun m : MaM => decide (m.name = y)) (ms.take i)
          rw [List.length_take] at h2
          omega
        have nof : noLAll (((ms.take (i + 1)).filter fun m => decide (m.name = y)).map MaM.d) = true := mas_noL fun m hm => ok.all m (List.mem_of_mem_take (List.mem_filter.mp hm).1)
        refine iteB (fun hb => ?_) fun hb => ?_
        · have hn : r.name = y := V.str.inj (of_decide_eq_true hb)
          refine ⟨_, rfl, ys, y3, small1000 (by omega), fun b o e => ?_, ?_, kt3.trans (KT.put y3), ys ++ [.ref c], upd_same, ?_⟩
          · rw [upd_ne (ne_of_none (s1 _ _ e) hD2)]
            exact s3 _ _ e
          · rw [upd_ne nD]
            exact x3
          · have ef : ((ms.take (i + 1)).filter fun m => decide (m.name = y)) = ((ms.take i).filter fun m => decide (m.name = y)) ++ [r] := by
              rw [take_more er, List.filter_append]
              simp [List.filter, hn]
            rw [ef] at nof ⊢
            rw [List.map_append] at nof ⊢
            exact dpTAll_keep (KT.put y3) (dpAll_app dy (.cons hr3 .nil)) nof
        · have hn : ¬ r.name = y := fun e => of_decide_eq_false hb (by rw [e] <;> rfl)
          refine ⟨s3, x3, kt3, ys, y3, ?_⟩
          have ef : ((ms.take (i + 1)).filter fun m => decide (m.name = y)) = ((ms.take i).filter fun m => decide (m.name = y)) := by
            rw [take_more er, List.filter_append]
            simp [List.filter, hn]
          rw [ef]
          exact dy
      · rintro H3 ⟨s3, x3, kt3, ys, y3, dy⟩
        have hl : rs.length = ms.length := by
          have h2 := dpAll_len da
          rw [List.length_map] at h2
          exact h2
        rw [hl, List.take_length] at dy
        have hh : (ms.filter fun m => decide (m.name = y)).head? = some m := by
          rw [List.head?_filter]
          exact hm
        obtain ⟨tl, etl⟩ : ∃ tl, (ms.filter fun m => decide (m.name = y)) = m :: tl := by
          cases e : (ms.filter fun m => decide (m.name = y)) with
          | nil =>
            rw [e] at hh
            cases hh
          | cons b r =>
            rw [e] at hh
            cases hh
            exact ⟨r, rfl⟩
        rw [etl] at dy
        cases dy with
        | @cons u us _ _ hu tu =>
          obtain ⟨mm, nm⟩ := fnd_some hm
          obtain ⟨c, g, ps, rfl, sc, sg, dg⟩ := ma_at hu
          refine ⟨D2, _, 0, .ref c, rfl, rfl, SqL.of y3, at_any (j := 0) rfl rfl, ?_⟩
          refine ⟨_, rfl, .inl ⟨rfl, _, SqL.of x3⟩, _, rfl, D, xs, _, rfl, rfl, x3, ?_, ?_⟩
          · have h1 := dpAll_len d1
            rw [List.length_map] at h1
            exact small1000 (by omega)
          have kt4 : KT K H3 (upd H3 D (.lst (xs ++ [.ref c]))) := KT.put x3
          refine ⟨_, rfl, c, _, 1, ovD m.over, rfl, rfl, kt4 _ _ sc, rfl, ?_⟩
          have nol : noLAll ((l ++ [m]).map MaM.d) = true := mas_noL fun m' hm' => ok.all m' (by
            rcases List.mem_append.mp hm' with h | h
            · exact chn_mem (z := z) (by rw [e1]; exact List.mem_append_left _ h)
            · rw [List.mem_singleton.mp h]; exact mm)
          have base : DpAll K (upd H3 D (.lst (xs ++ [.ref c]))) (xs ++ [.ref c]) ((l ++ [m]).map MaM.d) := by
            rw [List.map_append] at nol ⊢
            simp only [noLAll_app, Bool.and_eq_true] at nol
            refine dpAll_app (dpTAll_keep (kt3.trans kt4) d1 nol.1) (.cons (dpT_keep kt4 hu (ok.all m mm).noL) .nil)
          have sm : Same H (upd H3 D (.lst (xs ++ [.ref c]))) := fun b o e => by
            rw [upd_ne (ne_of_none e hD)]
            exact s3 _ _ e
          cases eo : m.over with
          | none =>
            simp only [eo] at es
            refine ⟨0, by rw [es]; exact Nat.succ_pos _, none, _, _, l ++ [m], [], xs ++ [.ref c], rfl, sm, upd_same, base, ?_, rfl, rfl⟩
            rw [e1, es, List.append_nil]
          | some y' =>
            simp only [eo] at es
            obtain ⟨f, fl, hf⟩ := ok.over
            refine ⟨(chn ms y').length, by rw [es]; exact Nat.lt_succ_self _, some y', _, _, l ++ [m], chn ms y', xs ++ [.ref c], rfl, sm, upd_same, base, ?_, ⟨(hf m mm y' eo).1, rfl⟩, rfl⟩
            rw [e1, es, List.append_assoc] <;> rfl

/-! ### the law's own places -/
theorem ok_thereL {f : Addr} {fd : FuncData} (F : FnP K "_law_there" slaw_there f fd) (T : Txt mg) (D_law_chain : Dn P w K mg base 1 "_law_chain" ["masters", "name"] (spMsL K (RChn K))) : FnOk P w K mg base CX0 2 f fd ["masters", "name"] (spMsL K RThere) := by
  refine okN F sclaw_there (fun vs H Q E h => ?_) (fun cdv A outer s H vs Q E hr h => ?_)
  · obtain ⟨v, z, ms, rfl, _⟩ := h
    rfl
  · obtain ⟨v, z, ms, rfl, hv, ok, hz, q⟩ := h
    refine ⟨_, (pss_cons (ps_set (i := 2) sclaw_there.nd rfl (Or.inl rfl) (pe_lst pa_nil))
      (pss_cons (ps_for PassesOwn.never rfl (pi_list (pe_revL (pe_dn D_law_chain (hr.mono (by decide)) rfl (pa_cons (pv 0) (pa_cons (pv 1) pa_nil))))) (pg_name (i := 3) sclaw_there.nd rfl (Or.inl rfl)) (pss_one (ps_for PassesOwn.never rfl (pi_tup (pe_ix ix_tup (pv 3) pe_int (fun _ _ => rfl))) (pg_name (i := 4) sclaw_there.nd rfl (Or.inl rfl)) (pss_one (ps_if (pt_cmpR op_notIn_seq (pe_ix ix_tup (pv 4) pe_int (fun _ _ => rfl)) (pv 2) rfl) (pss_one (ps_expr (pe_bm PySem.F.plainAttrs_list PySem.F.slot_list_append PySem.F.type_list_append mt_append (pv 2) (pa_cons (pe_ix ix_tup (pv 4) pe_int (fun _ _ => rfl)) pa_nil)))) pss_nil)))))
      (pss_one (ps_ret (pv 2))))), ?_⟩
    refine ⟨(by show 0 ≤ sizeLine; decide), fun D hD => ?_⟩
    have s0 := same_new (o := .lst []) hD
    refine ⟨_, rfl, _, rfl, v, z, ms, rfl, dp_same s0 hv, ok, hz, fun C H1 s1 hC hc => ?_⟩
    obtain ⟨xs, x1, d1⟩ := hc
    refine ⟨C, xs, rfl, SqL.of x1, fun R hR => ?_⟩
    have s2 := same_new (o := .lst xs.reverse) hR
    have xR : (upd H1 R (.lst xs.reverse)) R = some (.lst xs.reverse) := upd_same
    have xD := s2 _ _ (s1 _ _ upd_same)
    have dR : DpAll K (upd H1 R (.lst xs.reverse)) xs.reverse ((chn ms z).reverse.map MaM.d) := by
      rw [List.map_reverse]
      exact dpAll_rev (dpAll_same s2 d1)
    have sH : Same H (upd H1 R (.lst xs.reverse)) := (s0.trans s1).trans s2
    have nRD : R ≠ D := (ne_of_none (s1 _ _ upd_same) hR).symm
    revert xR xD dR sH
    generalize upd H1 R (.lst xs.reverse) = H2
    intro xR xD dR sH
    have okc : ∀ m ∈ (chn ms z).reverse, OkMa m := fun m hm => ok.all m (chn_mem (List.mem_reverse.mp hm))
    have lc : (chn ms z).reverse.length ≤ 20 := by
      rw [List.length_reverse]
      exact chn_len ms z
    have e0 : there ms z = (plN (chn ms z).reverse).foldl addN [] := rfl
    revert dR okc lc e0
    generalize (chn ms z).reverse = L
    intro dR okc lc e0
    have lxs : xs.reverse.length = L.length := by
      have h := dpAll_len dR
      rw [List.length_map] at h
      exact h
    have l8 : ∀ m ∈ L, m.own.length ≤ 8 := fun m hm => (okc m hm).few
    refine ⟨R, rfl, ⟨_, SqL.of xR⟩, for_list (K := K) (a := R) (xs := xs.reverse) (fun i σ H3 => ∃ (v3 v4 : Option V), σ = [some v, some (.str z), some (.ref D), v3, v4] ∧ Same H H3 ∧ KT K H2 H3 ∧ H3 R = some (.lst xs.reverse) ∧ H3 D = some (.lst (((plN (L.take i)).foldl addN []).map V.str))) ?_ ?_ ?_ ?_⟩
    · exact ⟨none, none, rfl, sH, KT.refl, xR, xD⟩
    · rintro i σ H3 hi ⟨_, _, _, _, _, x3, _⟩
      exact SqL.of x3
    · rintro i x σ H3 hi ⟨v3, v4, rfl, s3, kt3, x3, y3⟩
      obtain ⟨m, em, hm⟩ := at_rec dR hi
      have mm := List.mem_of_getElem? em
      have lt : i < L.length := (List.getElem?_eq_some_iff.mp em).1
      have hm3 := dpT_keep kt3 hm (okc m mm).noL
      obtain ⟨c, g, ps, rfl, sc, sg, dg⟩ := ma_at hm3
      refine ⟨_, rfl, c, _, 2, .ref g, rfl, rfl, sc, rfl, g, rfl, ⟨_, sg⟩, ?_⟩
      have lb : (plN (L.take i)).length ≤ 160 := by
        have h := plN_len (l := L.take i) fun m hm => l8 m (List.mem_of_mem_take hm)
        rw [List.length_take] at h
        omega
      have lm := l8 m mm
      have lps : ps.length = m.own.length := by
        have h := dpAll_len dg
        rw [List.length_map] at h
        exact h
      refine for_tup (K := K) (a := g) (xs := ps) (fun j σ H4 => ∃ v4 : Option V, σ = [some v, some (.str z), some (.ref D), some (.ref c), v4] ∧ Same H H4 ∧ KT K H3 H4 ∧ H4 R = some (.lst xs.reverse) ∧ H4 D = some (.lst ((((m.own.take j).map (·.name)).foldl addN ((plN (L.take i)).foldl addN [])).map V.str))) ?_ ?_ ?_ ?_
      · exact ⟨v4, rfl, s3, KT.refl, x3, y3⟩
      · rintro j σ H4 hj ⟨_, _, _, kt4, _⟩
        exact kt4 _ _ sg
      · rintro j x σ H4 hj ⟨v4, rfl, s4, kt4, x4, y4⟩
        obtain ⟨p, ep, hp⟩ := at_rec dg hj
        have mp := List.mem_of_getElem? ep
        have hp4 := dpT_keep kt4 hp ((okc m mm).own p mp).1.noL
        obtain ⟨c2, g2, ss, u, rfl, sc2, sg2, ds, du⟩ := pl_at hp4
        have et : ((m.own.take (j + 1)).map (·.name)).foldl addN ((plN (L.take i)).foldl addN []) = addN (((m.own.take j).map (·.name)).foldl addN ((plN (L.take i)).foldl addN [])) p.name := by
          rw [take_more ep, List.map_append, List.foldl_append] <;> rfl
        have lf : (((m.own.take j).map (·.name)).foldl addN ((plN (L.take i)).foldl addN [])).length ≤ 200 := by
          have h1 := fold_len (l := (m.own.take j).map (·.name)) (acc := (plN (L.take i)).foldl addN [])
          have h2 := fold_len (l := plN (L.take i)) (acc := [])
          rw [List.length_map, List.length_take] at h1
          have h3 : ([] : List Str).length = 0 := rfl
          omega
        revert et lf y4
        generalize (((m.own.take j).map (·.name)).foldl addN ((plN (L.take i)).foldl addN [])) = acc
        intro y4 et lf
        refine ⟨_, rfl, c2, _, 0, .str p.name, rfl, rfl, sc2, rfl, _, rfl, D, _, rfl, .inl (SqL.of y4), rfl, flat_strs acc, _, rfl, ?_⟩
        rw [inV_strs]
        refine iteNb (fun h => ?_) fun h => ?_
        · have hn : p.name ∉ acc := of_decide_eq_false h
          refine ⟨_, rfl, .inl ⟨rfl, _, SqL.of y4⟩, _, rfl, c2, _, 0, .str p.name, rfl, rfl, sc2, rfl, D, _, _, rfl, rfl, y4, ?_, ?_⟩
          · rw [List.length_map]
            exact small1000 (by omega)
          refine ⟨_, rfl, fun b o e => ?_, kt4.trans (KT.put y4), ?_, ?_⟩
          · rw [upd_ne (ne_of_none e hD)]
            exact s4 _ _ e
          · rw [upd_ne nRD]
            exact x4
          · rw [upd_same, et]
            unfold addN
            rw [if_neg hn, List.map_append] <;> rfl
        · have hn : p.name ∈ acc := of_decide_eq_true h
          refine ⟨_, rfl, s4, kt4, x4, ?_⟩
          rw [et]
          unfold addN
          rw [if_pos hn]
          exact y4
      · rintro σ H4 ⟨v4, rfl, s4, kt4, x4, y4⟩
        rw [lps, List.take_length] at y4
        refine ⟨_, _, rfl, s4, kt3.trans kt4, x4, ?_⟩
        rw [take_more em, plN_app, List.foldl_append]
        exact y4
    · rintro σ H3 ⟨v3, v4, rfl, s3, kt3, x3, y3⟩
      rw [lxs, List.take_length, ← e0] at y3
      exact ⟨_, rfl, q D H3 s3 hD y3⟩

/-! ### the same -/
def spSame (K : PySem.W.Frag) (n : Nat) : Sp := fun vs H Q _ => ∃ (x y : V) (d : PyData), vs = [x, y] ∧ Dp K H x d ∧ Dp K H y d ∧ dep d < n ∧ slim d = true ∧ ∀ H', Same H H' → Q (.bl true) H'
theorem ok_same {f : Addr} {fd : FuncData} (F : FnP K "_law_same" slaw_same f fd) (T : Txt mg) {n : Nat} (D_law_same : Dn P w K mg base n "_law_same" ["found", "due"] (spSame K n)) : FnOk P w K mg base CX0 (n + 1) f fd ["found", "due"] (spSame K (n + 1)) := by
  refine okN F sclaw_same (fun vs H Q E h => ?_) (fun cdv A outer s H vs Q E hr h => ?_)
  · obtain ⟨x, y, d, rfl, _⟩ := h
    rfl
  · obtain ⟨x, y, d, rfl, hx, hy, hd, hs, q⟩ := h
    refine ⟨_, (pss_cons (ps_if (pt_val (pe_callB call_isiT (by rfl) T.m_isinstance (by decide +kernel) (pa_cons (pv 1) (pa_cons (pe_tup (pa_cons (pe_bltn (v := .ty "tuple") (u := .type "tuple") rfl T.m_tuple (by decide +kernel) rfl) (pa_cons (pe_bltn (v := .ty "list") (u := .type "list") rfl T.m_list (by decide +kernel) rfl) pa_nil))) pa_nil)))) (pss_cons (ps_if (PW.pt (pw_or (pt_not (pt_val (pe_callB call_isiT (by rfl) T.m_isinstance (by decide +kernel) (pa_cons (pv 0) (pa_cons (pe_tup (pa_cons (pe_bltn (v := .ty "tuple") (u := .type "tuple") rfl T.m_tuple (by decide +kernel) rfl) (pa_cons (pe_bltn (v := .ty "list") (u := .type "list") rfl T.m_list (by decide +kernel) rfl) pa_nil))) pa_nil))))) (pw_or1 (pt_cmpR op_ne (pe_callB call_isi (by rfl) T.m_isinstance (by decide +kernel) (pa_cons (pv 0) (pa_cons (pe_bltn (v := .ty "list") (u := .type "list") rfl T.m_list (by decide +kernel) rfl) pa_nil))) (pe_callB call_isi (by rfl) T.m_isinstance (by decide +kernel) (pa_cons (pv 1) (pa_cons (pe_bltn (v := .ty "list") (u := .type "list") rfl T.m_list (by decide +kernel) rfl) pa_nil))) (nomark _))))) (pss_one (ps_ret pe_bl)) pss_nil)
      (pss_cons (ps_if (pt_cmpR op_ne (pe_callB call_len_seq (by rfl) T.m_len (by decide +kernel) (pa_cons (pv 0) pa_nil)) (pe_callB call_len_seq (by rfl) T.m_len (by decide +kernel) (pa_cons (pv 1) pa_nil)) (nomark _)) (pss_one (ps_ret pe_bl)) pss_nil)
      (pss_one (ps_ret (pe_callB (cr_all rfl) (by rfl) T.m_all (by decide +kernel) (pa_cons (pe_lc (own := [("one", 2), ("other", 3)]) (g := gTup K 2 (gCons (gName 2) (gCons (gName 3) gNil))) (by rfl) sclaw_same.nd (RZ.pi_zipA rfl T.m_zip (pa_cons (pv 0) (pa_cons (pv 1) pa_nil))) (blkOk_by (own := [("one", 2), ("other", 3)]) (N := ["found", "due", "one", "other"]) (sc := defScope slaw_same) (by decide +kernel)) (fun _ _ _ _ _ => (pg_tup rfl (pgs_cons (pg_name (i := 2) sclaw_same.nd rfl (Or.inl rfl)) (pgs_cons (pg_name (i := 3) sclaw_same.nd rfl (Or.inl rfl)) pgs_nil)))) (fun _ _ _ _ _ => pts_nil) (fun _ _ _ _ _ => (pe_dn D_law_same (hr.mono (Nat.le_refl _)) rfl (pa_cons (pv 2) (pa_cons (pv 3) pa_nil))))) pa_nil)))))) pss_nil)
      (pss_cons (ps_if (PW.pt (pw_or (pt_cmpR op_isN (pv 1) pe_non (nomark _)) (pw_or1 (pt_cmpR op_isN (pv 0) pe_non (nomark _))))) (pss_one (ps_ret (pe_and (pe_cmpR op_isN (pv 0) pe_non (nomark _)) (pe_one (pe_cmpR op_isN (pv 1) pe_non (nomark _)))))) pss_nil)
      (pss_cons (ps_if (PW.pt (pw_or (pt_cmpR op_ne (pe_callB call_isi (by rfl) T.m_isinstance (by decide +kernel) (pa_cons (pv 0) (pa_cons (pe_bltn (v := .ty "bool") (u := .type "bool") rfl T.m_bool (by decide +kernel) rfl) pa_nil))) (pe_callB call_isi (by rfl) T.m_isinstance (by decide +kernel) (pa_cons (pv 1) (pa_cons (pe_bltn (v := .ty "bool") (u := .type "bool") rfl T.m_bool (by decide +kernel) rfl) pa_nil))) (nomark _)) (pw_or1 (pt_cmpR op_ne (pe_callB call_isi (by rfl) T.m_isinstance (by decide +kernel) (pa_cons (pv 0) (pa_cons (pe_bltn (v := .ty "str") (u := .type "str") rfl T.m_str (by decide +kernel) rfl) pa_nil))) (pe_callB call_isi (by rfl) T.m_isinstance (by decide +kernel) (pa_cons (pv 1) (pa_cons (pe_bltn (v := .ty "str") (u := .type "str") rfl T.m_str (by decide +kernel) rfl) pa_nil))) (nomark _))))) (pss_one (ps_ret pe_bl)) pss_nil)
      (pss_cons (ps_if (pt_cmpR op_ne (pe_callB call_isi (by rfl) T.m_isinstance (by decide +kernel) (pa_cons (pv 0) (pa_cons (pe_bltn (v := .ty "int") (u := .type "int") rfl T.m_int (by decide +kernel) rfl) pa_nil))) (pe_callB call_isi (by rfl) T.m_isinstance (by decide +kernel) (pa_cons (pv 1) (pa_cons (pe_bltn (v := .ty "int") (u := .type "int") rfl T.m_int (by decide +kernel) rfl) pa_nil))) (nomark _)) (pss_one (ps_ret pe_bl)) pss_nil)
      (pss_one (ps_ret (pe_cmpR op_eq (pv 0) (pv 1) (nomark _)))))))), ?_⟩
    refine ⟨_, rfl, (by show 2 ≤ sizeLine; decide), fun t ht => ?_⟩
    have st := same_new (o := .tup [V.ty "tuple", V.ty "list"]) ht
    refine ⟨y, t, _, _, _, isSeq d, rfl, upd_same, pair2, dp_ty (dp_same st hy), any2 (dp_same st hy), _, rfl, ?_⟩
    have hx := dp_same st hx
    have hy := dp_same st hy
    revert st hx hy
    generalize upd H t (.tup [V.ty "tuple", V.ty "list"]) = H1
    intro st hx hy
    have two : ∀ {d : PyData} {x y : V} {H1 : Hp}, Dp K H1 x d → Dp K H1 y d → ∀ (c : String) (r : Bool), L2.kitB (tyN d) c = some r → (∃ t, TyX K H1 x t ∧ PySem.W.kitOne K t (.type c) = some r) ∧ ∃ t, TyX K H1 y t ∧ PySem.W.kitOne K t (.type c) = some r := fun hx hy c r e => ⟨one_ty hx e, one_ty hy e⟩
    cases d with
    | none =>
      obtain rfl := dp_non hx
      obtain rfl := dp_non hy
      exact iteF ⟨_, rfl, rfl, _, rfl, iteT ⟨_, rfl, rfl, _, rfl, _, rfl, rfl, q _ st⟩⟩
    | tuple ds =>
      have hl : ds.length ≤ 1000 ∧ slimAll ds = true := by
        simp only [slim, Bool.and_eq_true, decide_eq_true_eq] at hs
        exact hs
      refine iteT ?_
      refine ⟨_, rfl, (by show 2 ≤ sizeLine; decide), fun t2 ht2 => ?_⟩
      have st2 := same_new (o := .tup [V.ty "tuple", V.ty "list"]) ht2
      refine ⟨x, t2, _, _, _, true, rfl, upd_same, pair2, dp_ty (dp_same st2 hx), any2 (dp_same st2 hx), _, rfl, iteF ?_⟩
      have st := st.trans st2
      have hx := dp_same st2 hx
      have hy := dp_same st2 hy
      clear st2 ht2
      revert st hx hy
      generalize upd H1 t2 (.tup [V.ty "tuple", V.ty "list"]) = H2
      intro st hx hy
      obtain ⟨⟨u1, y1, k1⟩, u2, y2, k2⟩ := two hx hy "list" false (by show L2.kitB "tuple" "list" = some false; decide +kernel)
      refine ⟨_, rfl, x, .ty "list", u1, .type "list", false, rfl, .ty "list", y1, k1, _, rfl, y, .ty "list", u2, .type "list", false, rfl, .ty "list", y2, k2, rfl, _, rfl, iteF ?_⟩
      obtain ⟨a, xs, rfl, sx, dx⟩ := dp_tup hx
      obtain ⟨b, ys, rfl, sy, dy⟩ := dp_tup hy
      have lx := dpAll_len dx
      have ly := dpAll_len dy
      refine ⟨_, rfl, a, xs, rfl, .inr sx, _, rfl, b, ys, rfl, .inr sy, rfl, _, rfl, ?_⟩
      rw [show decide (V.int (xs.length : Int) = V.int (ys.length : Int)) = true from decide_eq_true (by rw [lx, ly])]
      refine iteF ?_
      refine ⟨_, rfl, _, rfl, a, b, xs, ys, rfl, .inr ⟨sx, sy, fun D hD => ?_⟩⟩
      refine lc_it (walk_zipT (K := K) (a := a) (b := b) (xs := xs) (ys := ys) (n := ds.length) (by rw [lx, ly, Nat.min_self])) (fun i H3 => Same H2 H3 ∧ H3 D = some (.lst ((List.replicate i true).map V.bl))) ⟨same_new hD, upd_same⟩ ?_ ?_ ?_
      · rintro i H3 hi ⟨s3, _⟩
        exact ⟨sqT_same s3 sx, sqT_same s3 sy⟩
      · rintro i z H3 H4 hi ⟨s3, e3⟩ ⟨T1, v1, v2, rfl, hT1, rfl, g1, g2⟩
        have sT := same_new (o := .tup [v1, v2]) hT1
        refine ⟨T1, _, rfl, SqT.of upd_same, rfl, _, _, rfl, _, _, rfl, rfl, rfl, ?_⟩
        obtain ⟨e1, f1, p1⟩ := dpAll_of dx g1
        obtain ⟨e2, f2, p2⟩ := dpAll_of dy g2
        rw [f1] at f2
        cases f2
        have m1 := List.mem_of_getElem? f1
        have dp1 := dep_at m1
        have s3T := s3.trans sT
        refine ⟨_, rfl, _, rfl, v1, v2, e1, rfl, dp_same s3T p1, dp_same s3T p2, (by simp only [dep] at hd; omega), slim_at hl.2 m1, fun H5 s5 => ?_⟩
        refine ⟨_, (sT.trans s5) _ _ e3, ?_, fun c o e => ?_, ?_⟩
        · rw [List.length_map, List.length_replicate]
          exact small1000 (by omega)
        · rw [upd_ne (ne_of_none e hD)]
          exact (s3T.trans s5) _ _ e
        · rw [upd_same, List.replicate_succ', List.map_append] <;> rfl
      · rintro H3 ⟨s3, e3⟩
        refine ⟨D, _, rfl, SqL.of e3, ?_⟩
        rw [ones_all]
        exact q _ (st.trans s3)
    | list ds =>
      have hl : ds.length ≤ 1000 ∧ slimAll ds = true := by
        simp only [slim, Bool.and_eq_true, decide_eq_true_eq] at hs
        exact hs
      refine iteT ?_
      refine ⟨_, rfl, (by show 2 ≤ sizeLine; decide), fun t2 ht2 => ?_⟩
      have st2 := same_new (o := .tup [V.ty "tuple", V.ty "list"]) ht2
      refine ⟨x, t2, _, _, _, true, rfl, upd_same, pair2, dp_ty (dp_same st2 hx), any2 (dp_same st2 hx), _, rfl, iteF ?_⟩
      have st := st.trans st2
      have hx := dp_same st2 hx
      have hy := dp_same st2 hy
      clear st2 ht2
      revert st hx hy
      generalize upd H1 t2 (.tup [V.ty "tuple", V.ty "list"]) = H2
      intro st hx hy
      obtain ⟨⟨u1, y1, k1⟩, u2, y2, k2⟩ := two hx hy "list" true (by show L2.kitB "list" "list" = some true; decide +kernel)
      refine ⟨_, rfl, x, .ty "list", u1, .type "list", true, rfl, .ty "list", y1, k1, _, rfl, y, .ty "list", u2, .type "list", true, rfl, .ty "list", y2, k2, rfl, _, rfl, iteF ?_⟩
      obtain ⟨a, xs, rfl, sx, dx⟩ := dp_lst hx
      obtain ⟨b, ys, rfl, sy, dy⟩ := dp_lst hy
      have lx := dpAll_len dx
      have ly := dpAll_len dy
      refine ⟨_, rfl, a, xs, rfl, .inl sx, _, rfl, b, ys, rfl, .inl sy, rfl, _, rfl, ?_⟩
      rw [show decide (V.int (xs.length : Int) = V.int (ys.length : Int)) = true from decide_eq_true (by rw [lx, ly])]
      refine iteF ?_
      refine ⟨_, rfl, _, rfl, a, b, xs, ys, rfl, .inl ⟨sx, sy, fun D hD => ?_⟩⟩
      refine lc_it (walk_zip (K := K) (a := a) (b := b) (xs := xs) (ys := ys) (n := ds.length) (by rw [lx, ly, Nat.min_self])) (fun i H3 => Same H2 H3 ∧ H3 D = some (.lst ((List.replicate i true).map V.bl))) ⟨same_new hD, upd_same⟩ ?_ ?_ ?_
      · rintro i H3 hi ⟨s3, _⟩
        exact ⟨s3.seq sx, s3.seq sy⟩
      · rintro i z H3 H4 hi ⟨s3, e3⟩ ⟨T1, v1, v2, rfl, hT1, rfl, g1, g2⟩
        have sT := same_new (o := .tup [v1, v2]) hT1
        refine ⟨T1, _, rfl, SqT.of upd_same, rfl, _, _, rfl, _, _, rfl, rfl, rfl, ?_⟩
        obtain ⟨e1, f1, p1⟩ := dpAll_of dx g1
        obtain ⟨e2, f2, p2⟩ := dpAll_of dy g2
        rw [f1] at f2
        cases f2
        have m1 := List.mem_of_getElem? f1
        have dp1 := dep_at m1
        have s3T := s3.trans sT
        refine ⟨_, rfl, _, rfl, v1, v2, e1, rfl, dp_same s3T p1, dp_same s3T p2, (by simp only [dep] at hd; omega), slim_at hl.2 m1, fun H5 s5 => ?_⟩
        refine ⟨_, (sT.trans s5) _ _ e3, ?_, fun c o e => ?_, ?_⟩
        · rw [List.length_map, List.length_replicate]
          exact small1000 (by omega)
        · rw [upd_ne (ne_of_none e hD)]
          exact (s3T.trans s5) _ _ e
        · rw [upd_same, List.replicate_succ', List.map_append] <;> rfl
      · rintro H3 ⟨s3, e3⟩
        refine ⟨D, _, rfl, SqL.of e3, ?_⟩
        rw [ones_all]
        exact q _ (st.trans s3)
    | int i =>
      obtain rfl := dp_int hx
      obtain rfl := dp_int hy
      refine iteF ⟨_, rfl, rfl, _, rfl, iteF ⟨_, rfl, rfl, _, rfl, iteF ?_⟩⟩
      obtain ⟨⟨u1, y1, k1⟩, u2, y2, k2⟩ := two hx hy "bool" false (by show L2.kitB "int" "bool" = some false; decide +kernel)
      refine ⟨_, rfl, _, .ty "bool", u1, .type "bool", _, rfl, .ty "bool", y1, k1, _, rfl, _, .ty "bool", u2, .type "bool", _, rfl, .ty "bool", y2, k2, rfl, _, rfl, iteF ?_⟩
      obtain ⟨⟨u1, y1, k1⟩, u2, y2, k2⟩ := two hx hy "str" false (by show L2.kitB "int" "str" = some false; decide +kernel)
      refine ⟨_, rfl, _, .ty "str", u1, .type "str", _, rfl, .ty "str", y1, k1, _, rfl, _, .ty "str", u2, .type "str", _, rfl, .ty "str", y2, k2, rfl, _, rfl, iteF ?_⟩
      obtain ⟨⟨u1, y1, k1⟩, u2, y2, k2⟩ := two hx hy "int" true (by show L2.kitB "int" "int" = some true; decide +kernel)
      refine ⟨_, rfl, _, .ty "int", u1, .type "int", _, rfl, .ty "int", y1, k1, _, rfl, _, .ty "int", u2, .type "int", _, rfl, .ty "int", y2, k2, rfl, _, rfl, iteF ?_⟩
      refine ⟨_, rfl, _, rfl, rfl, ?_⟩
      rw [show decide (V.int i = V.int i) = true from decide_eq_true rfl]
      exact q _ st
    | str i =>
      obtain rfl := dp_str hx
      obtain rfl := dp_str hy
      refine iteF ⟨_, rfl, rfl, _, rfl, iteF ⟨_, rfl, rfl, _, rfl, iteF ?_⟩⟩
      obtain ⟨⟨u1, y1, k1⟩, u2, y2, k2⟩ := two hx hy "bool" false (by show L2.kitB "str" "bool" = some false; decide +kernel)
      refine ⟨_, rfl, _, .ty "bool", u1, .type "bool", _, rfl, .ty "bool", y1, k1, _, rfl, _, .ty "bool", u2, .type "bool", _, rfl, .ty "bool", y2, k2, rfl, _, rfl, iteF ?_⟩
      obtain ⟨⟨u1, y1, k1⟩, u2, y2, k2⟩ := two hx hy "str" true (by show L2.kitB "str" "str" = some true; decide +kernel)
      refine ⟨_, rfl, _, .ty "str", u1, .type "str", _, rfl, .ty "str", y1, k1, _, rfl, _, .ty "str", u2, .type "str", _, rfl, .ty "str", y2, k2, rfl, _, rfl, iteF ?_⟩
      obtain ⟨⟨u1, y1, k1⟩, u2, y2, k2⟩ := two hx hy "int" false (by show L2.kitB "str" "int" = some false; decide +kernel)
      refine ⟨_, rfl, _, .ty "int", u1, .type "int", _, rfl, .ty "int", y1, k1, _, rfl, _, .ty "int", u2, .type "int", _, rfl, .ty "int", y2, k2, rfl, _, rfl, iteF ?_⟩
      refine ⟨_, rfl, _, rfl, rfl, ?_⟩
      rw [show decide (V.str i = V.str i) = true from decide_eq_true rfl]
      exact q _ st
    | bool i =>
      obtain rfl := dp_bl hx
      obtain rfl := dp_bl hy
      refine iteF ⟨_, rfl, rfl, _, rfl, iteF ⟨_, rfl, rfl, _, rfl, iteF ?_⟩⟩
      obtain ⟨⟨u1, y1, k1⟩, u2, y2, k2⟩ := two hx hy "bool" true (by show L2.kitB "bool" "bool" = some true; decide +kernel)
      refine ⟨_, rfl, _, .ty "bool", u1, .type "bool", _, rfl, .ty "bool", y1, k1, _, rfl, _, .ty "bool", u2, .type "bool", _, rfl, .ty "bool", y2, k2, rfl, _, rfl, iteF ?_⟩
      obtain ⟨⟨u1, y1, k1⟩, u2, y2, k2⟩ := two hx hy "str" false (by show L2.kitB "bool" "str" = some false; decide +kernel)
      refine ⟨_, rfl, _, .ty "str", u1, .type "str", _, rfl, .ty "str", y1, k1, _, rfl, _, .ty "str", u2, .type "str", _, rfl, .ty "str", y2, k2, rfl, _, rfl, iteF ?_⟩
      obtain ⟨⟨u1, y1, k1⟩, u2, y2, k2⟩ := two hx hy "int" true (by show L2.kitB "bool" "int" = some true; decide +kernel)
      refine ⟨_, rfl, _, .ty "int", u1, .type "int", _, rfl, .ty "int", y1, k1, _, rfl, _, .ty "int", u2, .type "int", _, rfl, .ty "int", y2, k2, rfl, _, rfl, iteF ?_⟩
      refine ⟨_, rfl, _, rfl, rfl, ?_⟩
      rw [show decide (V.bl i = V.bl i) = true from decide_eq_true rfl]
      exact q _ st
    | _ => cases hx

theorem ok_same_n {f : Addr} {fd : FuncData} (F : FnP K "_law_same" slaw_same f fd) (T : Txt mg) (mk : ∀ n, FnOk P w K mg base CX0 n f fd ["found", "due"] (spSame K n) → Dn P w K mg base n "_law_same" ["found", "due"] (spSame K n)) : ∀ n, FnOk P w K mg base CX0 n f fd ["found", "due"] (spSame K n)
  | 0 => ⟨fun vs H Q E h => by obtain ⟨_, _, _, rfl, _⟩ := h; rfl, fun A outer s H args us vs Q E _ _ _ _ h => by obtain ⟨_, _, _, _, _, _, h, _⟩ := h; exact absurd h (Nat.not_lt_zero _)⟩
  | n + 1 => ok_same F T (mk n (ok_same_n F T mk n))
theorem dep_strs (l : List Str) : dep (.list (l.map .str)) = 1 := by
  simp only [dep]
  have h := dep_all (ds := l.map PyData.str) (n := 0) fun d hd => by
    obtain ⟨z, _, rfl⟩ := List.mem_map.mp hd
    simp only [dep, Nat.le_refl]
  omega
theorem slim_strs {l : List Str} (h : l.length ≤ 1000) : slim (.list (l.map .str)) = true := by
  simp only [slim, List.length_map, decide_eq_true h, Bool.true_and]
  exact slim_all fun d hd => by
    obtain ⟨z, _, rfl⟩ := List.mem_map.mp hd
    simp only [slim]
theorem dp_strs {H : Hp} {D : Addr} {l : List Str} (e : H D = some (.lst (l.map V.str))) : Dp K H (.ref D) (.list (l.map .str)) := .lst (SqL.of e) (dpAll_strs l)

/-! ### the law's own worths and texts -/
def spSetL (K : PySem.W.Frag) : Sp := fun vs H Q _ => ∃ (v : V) (z y t : Str) (ms : List MaM), vs = [v, .str z, .str y, .str t] ∧ Dp K H v (.tuple (ms.map MaM.d)) ∧ OkMs ms ∧ (∃ m ∈ ms, m.name = z) ∧ t ∈ TRS ∧ ∀ (u : V) (H' : Hp), Same H H' → Dp K H' u (resW (said (chn ms z) y) t) → Q u H'
theorem trs_at {t : Str} (h : t ∈ TRS) : ∃ j : Nat, j < 6 ∧ TRS[j]? = some t ∧ (∀ m z', m < j → (TRS.map V.str)[m]? = some z' → eqV z' (.str t) = false) ∧ ∃ u, [V.int 0, V.int 0, V.int 40, V.int 10, V.int 1, V.str "plain"][j]? = some u ∧ ∀ (K : PySem.W.Frag) (H : Hp), Dp K H u (ownW t) := by
  have key : ∀ (j : Nat) (t : Str), TRS[j]? = some t → ∀ m z', m < j → (TRS.map V.str)[m]? = some z' → eqV z' (.str t) = false := fun j t e m z' hm hz => by
    obtain ⟨z, ez, rfl⟩ := str_at hz
    have hn : z ≠ t := fun q => by
      have h1 := pos_get (l := TRS) (by decide +kernel) ez
      have h2 := pos_get (l := TRS) (by decide +kernel) e
      rw [q] at h1
      omega
    exact beq_eq_false_iff_ne.mpr hn
  simp only [TRS, List.mem_cons, List.not_mem_nil, or_false] at h
  rcases h with rfl | rfl | rfl | rfl | rfl | rfl
  · exact ⟨0, by decide, rfl, key 0 _ rfl, _, rfl, fun K H => .int 0⟩
  · exact ⟨1, by decide, rfl, key 1 _ rfl, _, rfl, fun K H => .int 0⟩
  · exact ⟨2, by decide, rfl, key 2 _ rfl, _, rfl, fun K H => .int 40⟩
  · exact ⟨3, by decide, rfl, key 3 _ rfl, _, rfl, fun K H => .int 10⟩
  · exact ⟨4, by decide, rfl, key 4 _ rfl, _, rfl, fun K H => .int 1⟩
  · exact ⟨5, by decide, rfl, key 5 _ rfl, _, rfl, fun K H => .str "plain"⟩
theorem said_in {L : List MaM} {i : Nat} {m : MaM} {y : Str} (e : L[i]? = some m) : said L y = said (L.take i) y ++ (((m.own.filter fun p => decide (p.name = y)).map fun p => (m.name, p)) ++ said (L.drop (i + 1)) y) := by
  rw [← said_one, ← said_app, ← said_app]
  exact congrArg (fun l => said l y) (by rw [List.singleton_append]; exact split_at e)
theorem ok_setL {f : Addr} {fd : FuncData} (F : FnP K "_law_set" slaw_set f fd) (T : Txt mg) (D_law_chain : Dn P w K mg base 1 "_law_chain" ["masters", "name"] (spMsL K (RChn K))) (D_law_traits : Dn P w K mg base 1 "_law_traits" [] spTraits) :
    FnOk P w K mg base CX0 2 f fd ["masters", "name", "place", "trait"] (spSetL K) := by
  refine okN F sclaw_set (fun vs H Q E h => ?_) (fun cdv A outer s H vs Q E hr h => ?_)
  · obtain ⟨v, z, y, t, ms, rfl, _⟩ := h
    rfl
  · obtain ⟨v, z, y, t, ms, rfl, hv, ok, hz, mt, q⟩ := h
    refine ⟨_, (pss_cons (ps_for PassesOwn.never rfl (pi_list (pe_dn D_law_chain (hr.mono (by decide)) rfl (pa_cons (pv 0) (pa_cons (pv 1) pa_nil)))) (pg_name (i := 4) sclaw_set.nd rfl (Or.inl rfl)) (pss_one (ps_for PassesOwn.never rfl (pi_tup (pe_ix ix_tup (pv 4) pe_int (fun _ _ => rfl))) (pg_name (i := 5) sclaw_set.nd rfl (Or.inl rfl)) (pss_one (ps_if (pt_cmpR op_eq (pe_ix ix_tup (pv 5) pe_int (fun _ _ => rfl)) (pv 2) (nomark _)) (pss_one (ps_for PassesOwn.never rfl (pi_tup (pe_ix ix_tup (pv 5) pe_int (fun _ _ => rfl))) (pg_name (i := 6) sclaw_set.nd rfl (Or.inl rfl)) (pss_one (ps_if (pt_cmpR op_eq (pe_ix ix_tup (pv 6) pe_int (fun _ _ => rfl)) (pv 3) (nomark _)) (pss_one (ps_ret (pe_tup (pa_cons (pe_ix ix_tup (pv 6) pe_int (fun _ _ => rfl)) (pa_cons (pe_tup (pa_cons pe_str (pa_cons (pe_ix ix_tup (pv 4) pe_int (fun _ _ => rfl)) pa_nil))) pa_nil))))) pss_nil)))) pss_nil)))))
      (pss_one (ps_ret (pe_tup (pa_cons (pe_ix ix_list (pe_lst (pa_cons pe_int (pa_cons pe_int (pa_cons pe_int (pa_cons pe_int (pa_cons pe_int (pa_cons pe_str pa_nil))))))) (pe_bm PySem.F.plainAttrs_list PySem.F.slot_list_index PySem.F.type_list_index mt_index (pe_dn0 D_law_traits (hr.mono (by decide)) rfl) (pa_cons (pv 3) pa_nil)) (fun _ _ => rfl)) (pa_cons (pe_tup (pa_cons pe_str pa_nil)) pa_nil)))))), ?_⟩
    refine ⟨_, rfl, _, rfl, v, z, ms, rfl, hv, ok, hz, fun C H1 s1 hC hc => ?_⟩
    obtain ⟨xs, x1, d1⟩ := hc
    have okc : ∀ o ∈ chn ms z, OkMa o := fun o ho => ok.all o (chn_mem ho)
    revert q d1 okc
    generalize chn ms z = L
    intro q d1 okc
    have lxs : xs.length = L.length := by
      have h := dpAll_len d1
      rw [List.length_map] at h
      exact h
    refine ⟨C, rfl, ⟨_, SqL.of x1⟩, for_list (K := K) (a := C) (xs := xs) (fun i σ H2 => ∃ v4 v5 v6 : Option V, σ = [some v, some (.str z), some (.str y), some (.str t), v4, v5, v6] ∧ H2 = H1 ∧ wfind (said (L.take i) y) t = none) ?_ ?_ ?_ ?_⟩
    · exact ⟨none, none, none, rfl, rfl, rfl⟩
    · rintro i σ H2 hi ⟨_, _, _, _, rfl, _⟩
      exact SqL.of x1
    · rintro i x σ H2 hi ⟨v4, v5, v6, rfl, rfl, hn⟩
      obtain ⟨m, em, hm⟩ := at_rec d1 hi
      have mm := List.mem_of_getElem? em
      obtain ⟨c, g, ps, rfl, sc, sg, dg⟩ := ma_at hm
      have lps : ps.length = m.own.length := by
        have h := dpAll_len dg
        rw [List.length_map] at h
        exact h
      refine ⟨_, rfl, c, _, 2, .ref g, rfl, rfl, sc, rfl, g, rfl, ⟨_, sg⟩, for_tup (K := K) (a := g) (xs := ps) (fun j σ H3 => ∃ v5 v6 : Option V, σ = [some v, some (.str z), some (.str y), some (.str t), some (.ref c), v5, v6] ∧ H3 = H2 ∧ wfind (((m.own.take j).filter fun p => decide (p.name = y)).map fun p => (m.name, p)) t = none) ?_ ?_ ?_ ?_⟩
      · exact ⟨v5, v6, rfl, rfl, rfl⟩
      · rintro j σ H3 hj ⟨_, _, _, rfl, _⟩
        exact sg
      · rintro j x σ H3 hj ⟨v5, v6, rfl, rfl, hk⟩
        obtain ⟨p, ep, hp⟩ := at_rec dg hj
        obtain ⟨c2, g2, ss, u, rfl, sc2, sg2, ds, du⟩ := pl_at hp
        refine ⟨_, rfl, c2, _, 0, .str p.name, rfl, rfl, sc2, rfl, _, rfl, rfl, _, rfl, iteB (fun hb => ?_) fun hb => ?_⟩
        · have e : p.name = y := V.str.inj (of_decide_eq_true hb)
          have lss : ss.length = p.sets.length := by
            have h := dpAll_len ds
            rw [List.length_map] at h
            exact h
          refine ⟨_, rfl, c2, _, 1, .ref g2, rfl, rfl, sc2, rfl, g2, rfl, ⟨_, sg2⟩, for_tup (K := K) (a := g2) (xs := ss) (fun l σ H4 => ∃ v6 : Option V, σ = [some v, some (.str z), some (.str y), some (.str t), some (.ref c), some (.ref c2), v6] ∧ H4 = H3 ∧ (p.sets.take l).find? (fun x => decide (x.1 = t)) = none) ?_ ?_ ?_ ?_⟩
          · exact ⟨v6, rfl, rfl, rfl⟩
          · rintro l σ H4 hl ⟨_, _, rfl, _⟩
            exact sg2
          · rintro l x σ H4 hl ⟨v6, rfl, rfl, hf⟩
            obtain ⟨e2, ee, he⟩ := at_rec ds hl
            obtain ⟨c3, u3, rfl, sc3, du3⟩ := set_at he
            refine ⟨_, rfl, c3, _, 0, .str e2.1, rfl, rfl, sc3, rfl, _, rfl, rfl, _, rfl, iteB (fun hb2 => ?_) fun hb2 => ?_⟩
            · have e1 : e2.1 = t := V.str.inj (of_decide_eq_true hb2)
              have hf2 := find_at ee (p := fun x => decide (x.1 = t)) (decide_eq_true e1) hf
              refine ⟨_, rfl, c3, _, 1, u3, rfl, rfl, sc3, rfl, _, rfl, c, _, 0, .str m.name, rfl, rfl, sc, rfl, (by show 2 ≤ sizeLine; decide), fun t1 ht1 => ?_⟩
              have s3 := same_new (o := .tup [V.str "master", V.str m.name]) ht1
              refine ⟨(by show 2 ≤ sizeLine; decide), fun t2 ht2 => ?_⟩
              have s4 := same_new (o := .tup [u3, V.ref t1]) ht2
              refine q _ _ (s1.trans (s3.trans s4)) ?_
              have ew : wfind (said L y) t = some (e2.2, m.name) := by
                rw [said_in em, wfind_app hn]
                rw [split_at ep, List.filter_append, List.filter_cons, if_pos (decide_eq_true e), List.map_append, List.map_cons, List.append_assoc, wfind_app hk, List.cons_append, wfind_one hf2]
              unfold resW
              rw [ew]
              exact .tup (SqT.of upd_same) (.cons (dp_same (s3.trans s4) du3) (.cons (.tup (sqT_same s4 (SqT.of upd_same)) (.cons (.str _) (.cons (.str _) .nil))) .nil))
            · exact ⟨_, rfl, rfl, find_more ee (p := fun x => decide (x.1 = t)) (decide_eq_false fun e => of_decide_eq_false hb2 (by rw [e])) hf⟩
          · rintro σ H4 ⟨v6, rfl, rfl, hf⟩
            rw [lss, List.take_length] at hf
            refine ⟨_, _, rfl, rfl, ?_⟩
            rw [take_more ep, List.filter_append, List.map_append, wfind_app hk, List.filter_cons, if_pos (decide_eq_true e)]
            exact wfind_no hf
        · have e : ¬ p.name = y := fun e => of_decide_eq_false hb (by rw [e])
          refine ⟨_, _, rfl, rfl, ?_⟩
          rw [take_more ep, List.filter_append, List.map_append, wfind_app hk, List.filter_cons, if_neg (by simpa using e)]
          rfl
      · rintro σ H3 ⟨v5, v6, rfl, rfl, hk⟩
        rw [lps, List.take_length] at hk
        refine ⟨_, _, _, rfl, rfl, ?_⟩
        rw [take_more em, said_app, wfind_app hn, said_one]
        exact hk
    · rintro σ H2 ⟨v4, v5, v6, rfl, rfl, hn⟩
      rw [lxs, List.take_length] at hn
      obtain ⟨j, lj, ej, nj, u, eu, du⟩ := trs_at mt
      refine ⟨(by show 6 ≤ sizeLine; decide), fun W hW => ?_⟩
      have s2 := same_new (o := .lst [V.int 0, V.int 0, V.int 40, V.int 10, V.int 1, V.str "plain"]) hW
      have xW : (upd H2 W (.lst [V.int 0, V.int 0, V.int 40, V.int 10, V.int 1, V.str "plain"])) W = some (.lst [V.int 0, V.int 0, V.int 40, V.int 10, V.int 1, V.str "plain"]) := upd_same
      revert s2 xW
      generalize upd H2 W (.lst [V.int 0, V.int 0, V.int 40, V.int 10, V.int 1, V.str "plain"]) = H3
      intro s2 xW
      refine ⟨rfl, fun D H4 xD s4 hD => ?_⟩
      refine ⟨.inl ⟨rfl, _, SqL.of xD⟩, _, rfl, D, _, .str t, j, .str t, rfl, rfl, SqL.of xD, rfl, flat_strs TRS, by rw [List.getElem?_map, ej] <;> rfl, beq_iff_eq.mpr rfl, nj, ?_⟩
      refine ⟨W, _, _, u, rfl, rfl, SqL.of (s4 _ _ xW), at_any (j := j) rfl eu, ?_⟩
      refine ⟨(by show 1 ≤ sizeLine; decide), fun t1 ht1 => ?_⟩
      have s5 := same_new (o := .tup [V.str "own"]) ht1
      refine ⟨(by show 2 ≤ sizeLine; decide), fun t2 ht2 => ?_⟩
      have s6 := same_new (o := .tup [u, V.ref t1]) ht2
      refine q _ _ (((s1.trans s2).trans s4).trans (s5.trans s6)) ?_
      unfold resW
      rw [hn]
      exact .tup (SqT.of upd_same) (.cons (du _ _) (.cons (.tup (sqT_same s6 (SqT.of upd_same)) (.cons (.str _) .nil)) .nil))
def spToldL (K : PySem.W.Frag) : Sp := fun vs H Q _ => ∃ (v : V) (z y : Str) (ms : List MaM), vs = [v, .str z, .str y] ∧ Dp K H v (.tuple (ms.map MaM.d)) ∧ OkMs ms ∧ (∃ m ∈ ms, m.name = z) ∧ ∀ (u : V) (H' : Hp), Same H H' → Dp K H' u (Gk.resT (said (chn ms z) y)) → Q u H'
theorem ok_toldL {f : Addr} {fd : FuncData} (F : FnP K "_law_told_lines" slaw_told_lines f fd) (T : Txt mg) (D_law_chain : Dn P w K mg base 1 "_law_chain" ["masters", "name"] (spMsL K (RChn K))) :
    FnOk P w K mg base CX0 2 f fd ["masters", "name", "place"] (spToldL K) := by
  refine okN F sclaw_told_lines (fun vs H Q E h => ?_) (fun cdv A outer s H vs Q E hr h => ?_)
  · obtain ⟨v, z, y, ms, rfl, _⟩ := h
    rfl
  · obtain ⟨v, z, y, ms, rfl, hv, ok, hz, q⟩ := h
    refine ⟨_, (pss_cons (ps_for PassesOwn.never rfl (pi_list (pe_dn D_law_chain (hr.mono (by decide)) rfl (pa_cons (pv 0) (pa_cons (pv 1) pa_nil)))) (pg_name (i := 3) sclaw_told_lines.nd rfl (Or.inl rfl)) (pss_one (ps_for PassesOwn.never rfl (pi_tup (pe_ix ix_tup (pv 3) pe_int (fun _ _ => rfl))) (pg_name (i := 4) sclaw_told_lines.nd rfl (Or.inl rfl)) (pss_one (ps_if (PW.pt (pw_and (pt_cmpR op_eq (pe_ix ix_tup (pv 4) pe_int (fun _ _ => rfl)) (pv 2) (nomark _)) (pw_and1 (pt_cmpR op_notN (pe_ix ix_tup (pv 4) pe_int (fun _ _ => rfl)) pe_non (nomark _))))) (pss_one (ps_ret (pe_tup (pa_cons (pe_ix ix_tup (pv 4) pe_int (fun _ _ => rfl)) (pa_cons (pe_ix ix_tup (pv 3) pe_int (fun _ _ => rfl)) pa_nil))))) pss_nil)))))
      (pss_one (ps_ret (pe_tup (pa_cons pe_non (pa_cons pe_non pa_nil)))))), ?_⟩
    refine ⟨_, rfl, _, rfl, v, z, ms, rfl, hv, ok, hz, fun C H1 s1 hC hc => ?_⟩
    obtain ⟨xs, x1, d1⟩ := hc
    have okc : ∀ o ∈ chn ms z, OkMa o := fun o ho => ok.all o (chn_mem ho)
    revert q d1 okc
    generalize chn ms z = L
    intro q d1 okc
    have lxs : xs.length = L.length := by
      have h := dpAll_len d1
      rw [List.length_map] at h
      exact h
    refine ⟨C, rfl, ⟨_, SqL.of x1⟩, for_list (K := K) (a := C) (xs := xs) (fun i σ H2 => ∃ v3 v4 : Option V, σ = [some v, some (.str z), some (.str y), v3, v4] ∧ H2 = H1 ∧ tfind (said (L.take i) y) = none) ?_ ?_ ?_ ?_⟩
    · exact ⟨none, none, rfl, rfl, rfl⟩
    · rintro i σ H2 hi ⟨_, _, _, rfl, _⟩
      exact SqL.of x1
    · rintro i x σ H2 hi ⟨v3, v4, rfl, rfl, hn⟩
      obtain ⟨m, em, hm⟩ := at_rec d1 hi
      have mm := List.mem_of_getElem? em
      obtain ⟨c, g, ps, rfl, sc, sg, dg⟩ := ma_at hm
      have lps : ps.length = m.own.length := by
        have h := dpAll_len dg
        rw [List.length_map] at h
        exact h
      refine ⟨_, rfl, c, _, 2, .ref g, rfl, rfl, sc, rfl, g, rfl, ⟨_, sg⟩, for_tup (K := K) (a := g) (xs := ps) (fun j σ H3 => ∃ v4 : Option V, σ = [some v, some (.str z), some (.str y), some (.ref c), v4] ∧ H3 = H2 ∧ tfind (((m.own.take j).filter fun p => decide (p.name = y)).map fun p => (m.name, p)) = none) ?_ ?_ ?_ ?_⟩
      · exact ⟨v4, rfl, rfl, rfl⟩
      · rintro j σ H3 hj ⟨_, _, rfl, _⟩
        exact sg
      · rintro j x σ H3 hj ⟨v4, rfl, rfl, hk⟩
        obtain ⟨p, ep, hp⟩ := at_rec dg hj
        obtain ⟨c2, g2, ss, u, rfl, sc2, sg2, ds, du⟩ := pl_at hp
        refine ⟨_, rfl, c2, _, 0, .str p.name, rfl, rfl, sc2, rfl, _, rfl, rfl, _, rfl, iteB (fun hb => ?_) fun hb => iteF ?_⟩
        · have e : p.name = y := V.str.inj (of_decide_eq_true hb)
          refine ⟨_, rfl, c2, _, 2, u, rfl, rfl, sc2, rfl, rfl, _, rfl, ?_⟩
          cases et : p.text with
          | none =>
            rw [et] at du
            obtain rfl := dp_non du
            refine iteF ⟨_, rfl, rfl, ?_⟩
            rw [take_more ep, List.filter_append, List.map_append, tfind_app hk, List.filter_cons, if_pos (decide_eq_true e)]
            exact tfind_no et
          | some ls =>
            rw [et] at du
            obtain ⟨a, us, rfl, sa, dus⟩ := dp_tup (show Dp K H3 u (.tuple (ls.map .str)) from du)
            refine iteT ⟨_, rfl, c2, _, 2, .ref a, rfl, rfl, sc2, rfl, _, rfl, c, _, 0, .str m.name, rfl, rfl, sc, rfl, (by show 2 ≤ sizeLine; decide), fun t ht => ?_⟩
            have st := same_new (o := .tup [V.ref a, V.str m.name]) ht
            refine q _ _ (s1.trans st) ?_
            have ew : tfind (said L y) = some (ls, m.name) := by
              rw [said_in em, tfind_app hn]
              rw [split_at ep, List.filter_append, List.filter_cons, if_pos (decide_eq_true e), List.map_append, List.map_cons, List.append_assoc, tfind_app hk, List.cons_append, tfind_one et]
            unfold Gk.resT
            rw [ew]
            exact .tup (SqT.of upd_same) (.cons (dp_same st du) (.cons (.str _) .nil))
        · have e : ¬ p.name = y := fun e => of_decide_eq_false hb (by rw [e])
          refine ⟨_, rfl, rfl, ?_⟩
          rw [take_more ep, List.filter_append, List.map_append, tfind_app hk, List.filter_cons, if_neg (by simpa using e)]
          rfl
      · rintro σ H3 ⟨v4, rfl, rfl, hk⟩
        rw [lps, List.take_length] at hk
        refine ⟨_, _, rfl, rfl, ?_⟩
        rw [take_more em, said_app, tfind_app hn, said_one]
        exact hk
    · rintro σ H2 ⟨v3, v4, rfl, rfl, hn⟩
      rw [lxs, List.take_length] at hn
      refine ⟨(by show 2 ≤ sizeLine; decide), fun t ht => ?_⟩
      have st := same_new (o := .tup [V.non, V.non]) ht
      refine q _ _ (s1.trans st) ?_
      unfold Gk.resT
      rw [hn]
      exact .tup (SqT.of upd_same) (.cons .non (.cons .non .nil))

end
end K6

set_option Elab.async false
set_option linter.all false
set_option maxRecDepth 100000
set_option maxHeartbeats 2000000
namespace K6
open PySem PySem.Spec PyProof.Rows L2 GxR Gx Gd Gn Gm Gc Gk
abbrev sis_name : Stmt := top 13
theorem scis_name : FnScope ["thing"] ["thing"] (defScope sis_name) := ⟨rfl, rfl, rfl, by decide +kernel, rfl, by decide +kernel, by decide +kernel⟩
abbrev sis_one_of : Stmt := top 6
theorem scis_one_of : FnScope ["thing", "words"] ["thing", "words"] (defScope sis_one_of) := ⟨rfl, rfl, rfl, by decide +kernel, rfl, by decide +kernel, by decide +kernel⟩
abbrev sis_trait : Stmt := top 14
theorem scis_trait : FnScope ["thing"] ["thing"] (defScope sis_trait) := ⟨rfl, rfl, rfl, by decide +kernel, rfl, by decide +kernel, by decide +kernel⟩
abbrev smaster_of : Stmt := top 16
theorem scmaster_of : FnScope ["masters", "name", "master"] ["masters", "name"] (defScope smaster_of) := ⟨rfl, rfl, rfl, by decide +kernel, rfl, by decide +kernel, by decide +kernel⟩
abbrev smasters_along : Stmt := top 17
theorem scmasters_along : FnScope ["masters", "name", "along"] ["masters", "name"] (defScope smasters_along) := ⟨rfl, rfl, rfl, by decide +kernel, rfl, by decide +kernel, by decide +kernel⟩
abbrev ssaid_of : Stmt := top 18
theorem scsaid_of : FnScope ["masters", "name", "place", "along", "said", "master", "over", "places", "own", "settings", "text"] ["masters", "name", "place"] (defScope ssaid_of) := ⟨rfl, rfl, rfl, by decide +kernel, rfl, by decide +kernel, by decide +kernel⟩
abbrev sworth_said : Stmt := top 19
theorem scworth_said : FnScope ["said", "trait", "master", "settings", "text", "set_trait", "worth"] ["said", "trait"] (defScope sworth_said) := ⟨rfl, rfl, rfl, by decide +kernel, rfl, by decide +kernel, by decide +kernel⟩
abbrev sworth_by : Stmt := top 20
theorem scworth_by : FnScope ["masters", "name", "place", "trait", "said"] ["masters", "name", "place", "trait"] (defScope sworth_by) := ⟨rfl, rfl, rfl, by decide +kernel, rfl, by decide +kernel, by decide +kernel⟩
abbrev stext_by : Stmt := top 21
theorem sctext_by : FnScope ["masters", "name", "place", "master", "settings", "text"] ["masters", "name", "place"] (defScope stext_by) := ⟨rfl, rfl, rfl, by decide +kernel, rfl, by decide +kernel, by decide +kernel⟩
section
variable {P : Program} {w : World} {K : PySem.W.Frag} {mg : Str → Option Value} {base : Heap}
/-! ### is_name -/
def spName (P' : Addr) : Sp := fun vs H Q _ => ∃ v, vs = [v] ∧ Th H v ∧ (∀ z, v = .str z → z.length ≤ sizeLine) ∧ TabG H P' ∧ ∀ H2, Tabbed P' H H2 → Q (.bl (nameV v)) H2
theorem ok_name {fd : FuncData} {P' : Addr} (F : FnP K "is_name" sis_name (He.fAd K ("is_name", none)) fd) (T : Txt mg) (B : TabB base mg (He.codeOf K ("is_name", none)) P') {t1 t2 t3 : Tok}
    (g1 : mg "LETTERS" = some (.str LETS t1)) (g2 : mg "FIGURES" = some (.str FIGS t2)) (g3 : mg "LONGEST_NAME" = some (.int 8 t3)) :
    FnOk P w K mg base CX0 1 (He.fAd K ("is_name", none)) fd ["thing"] (spName P') := by
  refine okCN F scis_name (fun vs H Q E h => ?_) (fun cdv A outer s H vs Q E hc hr h => ?_)
  · obtain ⟨v, rfl, _⟩ := h
    rfl
  · obtain ⟨v, rfl, hT, hz, hG, q⟩ := h
    subst hc
    refine ⟨_, (pss_cons (ps_if (PW.pt (pw_or (pt_not (pt_val (pe_callB call_isi (by rfl) T.m_isinstance (by decide +kernel) (pa_cons (pv 0) (pa_cons (pe_bltn (v := .ty "str") (u := .type "str") rfl T.m_str (by decide +kernel) rfl) pa_nil))))) (pw_or1 (pt_not (pt_chain op_le op_le pe_int (pe_callB call_len_str (by rfl) T.m_len (by decide +kernel) (pa_cons (pv 0) pa_nil)) (pe_glob (v := .int 8) rfl g3 ⟨_, rfl⟩)))))) (pss_one (ps_ret pe_bl)) pss_nil)
      (pss_one (ps_ret (pe_and (pe_cmpR op_in_sign (pe_ix ix_str (pv 0) pe_int (fun _ _ => rfl)) (pe_glob (v := .str LETS) rfl g1 ⟨_, rfl⟩) rfl) (pe_one (pe_allG hr rfl T.m_all B rfl (gs_plain rfl rfl rfl rfl (by decide +kernel)) (pv 0) (elt_or (elt_inG rfl rfl rfl g1) (elt_inG rfl rfl rfl g2)))))))), ?_⟩
    obtain ⟨t, ty, kt⟩ := hT.str_ (K := K)
    refine ⟨_, rfl, v, .ty "str", t, .type "str", isStr v, rfl, .ty "str", ty, kt, _, rfl, ?_⟩
    have same : Tabbed P' H H := ⟨hG, fun _ _ => rfl⟩
    cases hs : isStr v with
    | false =>
      have q1 := q H same
      rw [nameV_no hs] at q1
      exact iteT (iteT q1)
    | true =>
      obtain ⟨z, rfl⟩ : ∃ z, v = .str z := by cases v <;> first | exact ⟨_, rfl⟩ | cases hs
      refine iteF ?_
      refine ⟨_, rfl, _, rfl, hz z rfl, _, _, rfl, rfl, _, rfl, ?_⟩
      have nb : nameV (.str z) = (decide (1 ≤ (z.length : Int)) && (decide ((z.length : Int) ≤ 8) && ((match z.cps.toList with
        | [] => false
        | c :: _ => isLet c) && z.cps.toList.all fun c => isLet c || isFig c))) := rfl
      rw [nb] at q
      refine iteB (fun c1 => ?_) fun c1 => ?_
      · obtain ⟨c, r, ec⟩ := head_of (of_decide_eq_true c1)
        rw [c1, ec] at q
        refine ⟨_, _, rfl, rfl, _, rfl, iteNb (fun c2 => ?_) fun c2 => ?_⟩
        · rw [c2] at q
          exact q H same
        · rw [c2] at q
          refine ⟨_, rfl, z, 0, c, rfl, rfl, hz z rfl, at_any (xs := z.cps.toList) (v := c) (j := 0) rfl (by rw [ec]; rfl), c, LETS, rfl, rfl, _, rfl, iteB (fun c3 => ?_) fun c3 => ?_⟩
          · refine ⟨_, rfl, z, rfl, hG, fun H2 h2 => ?_⟩
            have q2 : Q (.bl (isLet c && (c :: r).all fun c => isLet c || isFig c)) H2 := q H2 h2
            rw [show isLet c = true from c3] at q2
            rw [ec]
            exact q2
          · have q2 : Q (.bl (isLet c && (c :: r).all fun c => isLet c || isFig c)) H := q H same
            rw [show isLet c = false from c3] at q2
            exact q2
      · rw [c1] at q
        exact ⟨_, rfl, iteT (q H same)⟩

/-! ### kinds -/
theorem ok_oneof {f : Addr} {fd : FuncData} (F : FnP K "is_one_of" sis_one_of f fd) (T : Txt mg) : FnOk P w K mg base CX0 1 f fd ["thing", "words"] (spOneOf K) := by
  refine okN F scis_one_of (fun vs H Q E h => ?_) (fun cdv A outer s H vs Q E hr h => ?_)
  · obtain ⟨v, a, xs, rfl, _⟩ := h
    rfl
  · obtain ⟨v, a, xs, rfl, hT, ha, hf, q⟩ := h
    refine ⟨_, (pss_one (ps_ret (pe_and (pe_callB call_isi (by rfl) T.m_isinstance (by decide +kernel) (pa_cons (pv 0) (pa_cons (pe_bltn (v := .ty "str") (u := .type "str") rfl T.m_str (by decide +kernel) rfl) pa_nil))) (pe_one (pe_cmpR op_in_seq (pv 0) (pv 1) rfl))))), ?_⟩
    obtain ⟨t, ty, kt⟩ := hT.str_ (K := K)
    refine ⟨_, rfl, v, .ty "str", t, .type "str", isStr v, rfl, .ty "str", ty, kt, _, rfl, ?_⟩
    cases hs : isStr v with
    | false =>
      rw [hs] at q
      exact q
    | true =>
      obtain ⟨z, rfl⟩ : ∃ z, v = .str z := by cases v <;> first | exact ⟨_, rfl⟩ | cases hs
      refine iteT ?_
      exact ⟨_, rfl, _, rfl, _, xs, rfl, .inr ha, rfl, hf, q⟩
theorem ok_trait {f : Addr} {fd : FuncData} (F : FnP K "is_trait" sis_trait f fd) (gT : mg "TRAITS" = some (.ref (He.ga K "TRAITS"))) (tT : ∀ H, SqT K H (He.ga K "TRAITS") TR) (D_is_one_of : Dn P w K mg base 1 "is_one_of" ["thing", "words"] (spOneOf K)) : FnOk P w K mg base CX0 2 f fd ["thing"] spTrait := by
  refine okN F scis_trait (fun vs H Q E h => ?_) (fun cdv A outer s H vs Q E hr h => ?_)
  · obtain ⟨v, rfl, _⟩ := h
    rfl
  · obtain ⟨v, rfl, hT, q⟩ := h
    refine ⟨_, (pss_one (ps_ret (pe_dn D_is_one_of (hr.mono (by decide)) rfl (pa_cons (pv 0) (pa_cons (pe_glob (v := .ref (He.ga K "TRAITS")) rfl gT rfl) pa_nil))))), ?_⟩
    refine ⟨_, rfl, v, _, TR, rfl, hT, tT H, flat_strs TRS, ?_⟩
    cases hs : isStr v with
    | false =>
      rw [traitV_no hs] at q
      exact q
    | true =>
      obtain ⟨z, rfl⟩ : ∃ z, v = .str z := by cases v <;> first | exact ⟨_, rfl⟩ | cases hs
      exact q

/-! ### the program's masters, refusals too -/
theorem fndV_no {ms : List MaM} (ok : OkMs ms) {n : V} (h : nameV n = false) : fndV ms n = none := by
  cases n with
  | str z =>
    cases e : fnd ms z with
    | none => exact e
    | some m =>
      obtain ⟨mm, nm⟩ := fnd_some e
      have h1 := (ok.all m mm).name
      rw [nm] at h1
      have h2 : nameB z = false := h
      rw [h2] at h1
      cases h1
  | _ => rfl
theorem nameV_str {v : V} (h : nameV v = true) : ∃ z, v = .str z ∧ nameB z = true := by
  cases v with
  | str z => exact ⟨z, rfl, h⟩
  | _ => cases h
theorem ok_mof {f : Addr} {fd : FuncData} {P' : Addr} (F : FnP K "master_of" smaster_of f fd) (T : Txt mg) (N_NoMaster : Er K mg "NoMaster") (D_is_name : Dn P w K mg base 1 "is_name" ["thing"] (spName P')) : FnOk P w K mg base (L2.CX P w) 2 f fd ["masters", "name"] (spMOfR K P') := by
  refine okS F scmaster_of (fun vs H Q E h => ?_) (fun cdv A outer s H vs Q E hr h => ?_)
  · obtain ⟨v, n, ms, rfl, _⟩ := h
    rfl
  · obtain ⟨v, n, ms, rfl, hv, ok, hn, hG, q, ko⟩ := h
    refine ⟨_, (pss_cons (ps_if (pt_val (pe_dn D_is_name (hr.mono (by decide)) rfl (pa_cons (pv 1) pa_nil))) (pss_one (ps_for (passes_of rfl) rfl (pi_tup (pv 0)) (pg_name (i := 2) scmaster_of.nd rfl (Or.inl rfl)) (pss_one (ps_if (pt_cmpR op_eq (pe_ix ix_tup (pv 2) pe_int (fun _ _ => rfl)) (pv 1) (nomark _)) (pss_one (ps_ret (pv 2))) pss_nil)))) pss_nil)
      (pss_one (ps_raise rfl (takes_of rfl rfl rfl rfl) (pmk_own PySem.F.excBase_ValueError N_NoMaster.x N_NoMaster.g N_NoMaster.k (raises_own N_NoMaster.b N_NoMaster.t) rfl)))), ?_⟩
    have nl : noLAll (ms.map MaM.d) = true := mas_noL ok.all
    refine ⟨_, rfl, n, rfl, hn.1, hn.2, hG, fun H1 h1 => ?_⟩
    have tk1 := Tk.tabbed h1
    refine ⟨_, rfl, iteB (fun hb => ?_) fun hb => ?_⟩
    · obtain ⟨z, rfl, nz⟩ := nameV_str hb
      obtain ⟨a, rs, rfl, sa, da⟩ := dp_tup hv
      have kt1 : KT K H H1 := KT.tk hG tk1
      refine ⟨_, rfl, a, rfl, ⟨_, kt1 _ _ sa⟩, for_tup (K := K) (a := a) (xs := rs) (fun i σ H3 => ∃ v2 : Option V, σ = [some (.ref a), some (.str z), v2] ∧ H3 = H1 ∧ (ms.take i).find? (fun m => decide (m.name = z)) = none) ?_ ?_ ?_ ?_⟩
      · exact ⟨none, rfl, rfl, rfl⟩
      · rintro i σ H3 hi ⟨_, _, rfl, _⟩
        exact kt1 _ _ sa
      · rintro i x σ H3 hi ⟨v2, rfl, rfl, hn⟩
        obtain ⟨r, er, hr'⟩ := at_rec da hi
        have hr3 := dpT_keep kt1 hr' ((ok.all r (List.mem_of_getElem? er)).noL)
        obtain ⟨c, g, ps, rfl, sc, sg, dg⟩ := ma_at hr3
        refine ⟨_, rfl, c, _, 0, .str r.name, rfl, rfl, sc, rfl, _, rfl, rfl, _, rfl, iteB (fun hb => ?_) fun hb => ?_⟩
        · have e : r.name = z := V.str.inj (of_decide_eq_true hb)
          have ef : fnd ms z = some r := find_at er (decide_eq_true e) hn
          exact ⟨_, rfl, q r _ _ ef tk1 hr3⟩
        · exact ⟨_, rfl, rfl, find_more er (decide_eq_false fun e => of_decide_eq_false hb (by rw [e])) hn⟩
      · rintro σ H3 ⟨v2, rfl, rfl, hn⟩
        have hl : rs.length = ms.length := by
          have h := dpAll_len da
          rw [List.length_map] at h
          exact h
        rw [hl, List.take_length] at hn
        exact ko hn _ tk1
    · exact ko (fndV_no ok hb) _ tk1
theorem ok_along {f : Addr} {fd : FuncData} {P' : Addr} (F : FnP K "masters_along" smasters_along f fd) (T : Txt mg) (D_master_of : DnS P w K mg base 2 "master_of" ["masters", "name"] (spMOfR K P')) : FnOk P w K mg base (L2.CX P w) 3 f fd ["masters", "name"] (spMsR K P' (RChn K)) := by
  refine okS F scmasters_along (fun vs H Q E h => ?_) (fun cdv A outer s H vs Q E hr h => ?_)
  · obtain ⟨v, n, ms, rfl, _⟩ := h
    rfl
  · obtain ⟨v, n, ms, rfl, hv, ok, hn, hG, q, ko⟩ := h
    refine ⟨_, (pss_cons (ps_set (i := 2) scmasters_along.nd rfl (Or.inl rfl) (pe_lst (pa_cons (pe_dnS D_master_of (hr.mono (by decide)) rfl (fun σ => passAt (takes_of rfl rfl rfl rfl) σ) (pa_cons (pv 0) (pa_cons (pv 1) pa_nil))) pa_nil)))
      (pss_cons (ps_while (passes_of rfl) (pt_cmpR op_notN (pe_ix ix_tup (pe_ix ix_list (pv 2) (pe_un un_neg pe_int) (fun _ _ => rfl)) pe_int (fun _ _ => rfl)) pe_non (nomark _)) (pss_one (ps_expr (pe_bm PySem.F.plainAttrs_list PySem.F.slot_list_append PySem.F.type_list_append mt_append (pv 2) (pa_cons (pe_dnS D_master_of (hr.mono (by decide)) rfl (fun σ => passAt (takes_of rfl rfl rfl rfl) σ) (pa_cons (pv 0) (pa_cons (pe_ix ix_tup (pe_ix ix_list (pv 2) (pe_un un_neg pe_int) (fun _ _ => rfl)) pe_int (fun _ _ => rfl)) pa_nil))) pa_nil)))))
      (pss_one (ps_ret (pv 2))))), ?_⟩
    have nl : noL (.tuple (ms.map MaM.d)) = true := ok.noL
    refine ⟨_, rfl, _, rfl, v, n, ms, rfl, hv, ok, hn, hG, fun m u H1 hm tk1 hu => ?_, ko⟩
    obtain ⟨rfl, hm'⟩ := fndV_some hm
    have q := q m hm
    refine ⟨(by show 1 ≤ sizeLine; decide), fun D hD => ?_⟩
    have s2 := same_new (o := .lst [u]) hD
    have hD0 : H D = none := tk1.free hG hD
    have nm : noL m.d = true := (ok.all m (fnd_some hm').1).noL
    have tk2 : Tk P' H (upd H1 D (.lst [u])) := tk1.trans (Tk.same tk1.1 s2)
    generalize ez : m.name = z at q ⊢
    refine ⟨fun n σ H2 => ∃ (l : List MaM) (m : MaM) (xs : List V) (u : V), σ = [some v, some (.str z), some (.ref D)] ∧ Tk P' H H2 ∧ H2 D = some (.lst (xs ++ [u])) ∧ DpAll K H2 xs (l.map MaM.d) ∧ Dp K H2 u m.d ∧ m ∈ ms ∧ chn ms z = l ++ chn ms m.name ∧ n = (chn ms m.name).length,
      ⟨_, [], m, [], u, rfl, tk2, upd_same, .nil, dpT_keep (KT.same s2) hu nm, (fnd_some hm').1, by rw [ez] <;> rfl, rfl⟩, ?_⟩
    clear hu nm hm hm' ez
    rintro n σ H2 ⟨l, m, xs, u, rfl, tk2, x2, d2, du, mm, ec, rfl⟩
    have es := chn_step ok (fnd_self ok.once mm)
    obtain ⟨c, g, ps, rfl, sc, sg, dg⟩ := ma_at du
    have okl : ∀ m' ∈ l, OkMa m' := fun m' hm' => ok.all m' (chn_mem (z := z) (by rw [ec]; exact List.mem_append_left _ hm'))
    have ll : l.length ≤ 20 := by
      have h := chn_len ms z
      rw [ec, List.length_append] at h
      omega
    refine ⟨_, rfl, _, rfl, D, _, -1, .ref c, rfl, rfl, SqL.of x2, atI_last _ _, c, _, 1, ovD m.over, rfl, rfl, sc, rfl, rfl, _, rfl, ?_⟩
    cases eo : m.over with
    | none =>
      simp only [eo] at es
      refine iteF ⟨_, rfl, ?_⟩
      refine q D H2 tk2 hD0 ⟨_, x2, ?_⟩
      rw [ec, es, List.map_append]
      exact dpAll_app d2 (.cons du .nil)
    | some y =>
      simp only [eo] at es
      obtain ⟨f, fl, hf⟩ := ok.over
      have hy := (hf m mm y eo).1
      obtain ⟨my, hmy⟩ := fnd_of hy
      have ny : nameB y = true := by
        obtain ⟨h1, h2⟩ := fnd_some hmy
        rw [← h2]
        exact (ok.all my h1).name
      refine iteT ⟨fun σ' H' => ∃ n', n' < (chn ms m.name).length ∧ ∃ (l : List MaM) (m : MaM) (xs : List V) (u : V), σ' = [some v, some (.str z), some (.ref D)] ∧ Tk P' H H' ∧ H' D = some (.lst (xs ++ [u])) ∧ DpAll K H' xs (l.map MaM.d) ∧ Dp K H' u m.d ∧ m ∈ ms ∧ chn ms z = l ++ chn ms m.name ∧ n' = (chn ms m.name).length, fun σ' H' h => h, ?_⟩
      refine ⟨_, rfl, .inl ⟨rfl, _, SqL.of x2⟩, _, rfl, _, rfl, _, rfl, D, _, -1, .ref c, rfl, rfl, SqL.of x2, atI_last _ _, c, _, 1, .str y, rfl, rfl, (by rw [eo] at sc; exact sc), rfl, ?_⟩
      have kt2 : KT K H H2 := KT.tk hG tk2
      refine ⟨v, .str y, ms, rfl, dpT_keep kt2 hv nl, ok, ok_str (Nat.le_of_lt (small1000 (by have := name_small ny; omega))), tk2.1, fun m' u' H3 hm' tk3 hu' => ?_, fun e => by cases hmy.symm.trans e⟩
      have x3 : H3 D = _ := tk3.lst tk2.1 x2
      refine ⟨D, _, _, rfl, rfl, x3, ?_, ?_⟩
      · have h := dpAll_len d2
        rw [List.length_map] at h
        rw [List.length_append, List.length_singleton]
        exact small1000 (by omega)
      have kt3 : KT K H2 (upd H3 D (.lst ((xs ++ [.ref c]) ++ [u']))) := (KT.tk tk2.1 tk3).trans (KT.put x3)
      have nm' := fnd_some (show fnd ms y = some m' from hm')
      refine ⟨(chn ms m'.name).length, ?_, l ++ [m], m', xs ++ [.ref c], u', rfl, ?_, upd_same, ?_, ?_, nm'.1, ?_, rfl⟩
      · rw [es, nm'.2]
        exact Nat.lt_succ_self _
      · exact Tk.put hG hD0 (tk2.trans tk3) (tab_put tk3.1 x3)
      · rw [List.map_append]
        exact dpAll_app (dpTAll_keep kt3 d2 (mas_noL okl)) (.cons (dpT_keep kt3 du (ok.all m mm).noL) .nil)
      · exact dpT_keep (KT.put x3) hu' (ok.all m' nm'.1).noL
      · rw [ec, es, nm'.2, List.append_assoc] <;> rfl
theorem said_V {l : List MaM} {y : V} (h : nameV y = false) (okl : ∀ m ∈ l, OkMa m) : saidV l y = [] := by
  cases y with
  | str z =>
    cases e : said l z with
    | nil => exact e
    | cons s r =>
      obtain ⟨m, hm, _, h2, h3⟩ := said_pl (show s ∈ said l z by rw [e]; exact List.mem_cons_self)
      have h4 := ((okl m hm).own s.2 h2).2
      rw [h3] at h4
      have h5 : nameB z = false := h
      rw [h5] at h4
      cases h4
  | _ => rfl
theorem ok_said {f : Addr} {fd : FuncData} {P' : Addr} (F : FnP K "said_of" ssaid_of f fd) (T : Txt mg) (N_NoPlace : Er K mg "NoPlace") (D_is_name : Dn P w K mg base 1 "is_name" ["thing"] (spName P')) (D_masters_along : DnS P w K mg base 3 "masters_along" ["masters", "name"] (spMsR K P' (RChn K))) :
    FnOk P w K mg base (L2.CX P w) 4 f fd ["masters", "name", "place"] (spSaid K P') := by
  refine okS F scsaid_of (fun vs H Q E h => ?_) (fun cdv A outer s H vs Q E hr h => ?_)
  · obtain ⟨v, n, y, ms, rfl, _⟩ := h
    rfl
  · obtain ⟨v, n, y, ms, rfl, hv, ok, hn, hy, hG, ko1, ko2, q⟩ := h
    refine ⟨_, (pss_cons (ps_set (i := 3) scsaid_of.nd rfl (Or.inl rfl) (pe_dnS D_masters_along (hr.mono (by decide)) rfl (fun σ => passAt (takes_of rfl rfl rfl rfl) σ) (pa_cons (pv 0) (pa_cons (pv 1) pa_nil))))
      (pss_cons (ps_if (pt_not (pt_val (pe_dn D_is_name (hr.mono (by decide)) rfl (pa_cons (pv 2) pa_nil)))) (pss_one (ps_raise rfl (takes_of rfl rfl rfl rfl) (pmk_own PySem.F.excBase_ValueError N_NoPlace.x N_NoPlace.g N_NoPlace.k (raises_own N_NoPlace.b N_NoPlace.t) rfl))) pss_nil)
      (pss_cons (ps_setLc2 (i := 4) (wi1 := iTup K (tVar 7)) (own := [("master", 5), ("over", 6), ("places", 7), ("own", 8), ("settings", 9), ("text", 10)]) (vs1 := [8, 9, 10]) (g := (gTup K 3 (gCons (gName 5) (gCons (gName 6) (gCons (gName 7) gNil))))) (g1 := (gTup K 3 (gCons (gName 8) (gCons (gName 9) (gCons (gName 10) gNil))))) (by rfl) scsaid_of.nd rfl rfl (sw_true rfl rfl rfl (by decide +kernel)) (pi_list (pv 3)) (blkOk_by (own := [("master", 5), ("over", 6), ("places", 7), ("own", 8), ("settings", 9), ("text", 10)]) (N := ["masters", "name", "place", "along", "said", "master", "over", "places", "own", "settings", "text"]) (sc := defScope ssaid_of) (by decide +kernel)) (by decide) (fun _ _ _ _ _ => (pg_tup rfl (pgs_cons (pg_name (i := 5) scsaid_of.nd rfl (Or.inl rfl)) (pgs_cons (pg_name (i := 6) scsaid_of.nd rfl (Or.inl rfl)) (pgs_cons (pg_name (i := 7) scsaid_of.nd rfl (Or.inl rfl)) pgs_nil))))) (fun _ _ _ _ _ => pts_nil) (fun _ _ _ _ _ => (pi_tup (pv 7))) (fun _ _ _ _ _ => (pg_tup rfl (pgs_cons (pg_name (i := 8) scsaid_of.nd rfl (Or.inl rfl)) (pgs_cons (pg_name (i := 9) scsaid_of.nd rfl (Or.inl rfl)) (pgs_cons (pg_name (i := 10) scsaid_of.nd rfl (Or.inl rfl)) pgs_nil))))) (fun _ _ _ _ _ => (pts_one (pt_cmpR op_eq (pv 8) (pv 2) (nomark _)))) (fun _ _ _ _ _ => (pe_tup (pa_cons (pv 5) (pa_cons (pv 9) (pa_cons (pv 10) pa_nil))))))
      (pss_cons (ps_if (pt_not (pt_truth (pv 4) (by intro _; rfl))) (pss_one (ps_raise rfl (takes_of rfl rfl rfl rfl) (pmk_own PySem.F.excBase_ValueError N_NoPlace.x N_NoPlace.g N_NoPlace.k (raises_own N_NoPlace.b N_NoPlace.t) rfl))) pss_nil)
      (pss_one (ps_ret (pv 4))))))), ?_⟩
    refine ⟨_, rfl, _, rfl, v, n, ms, rfl, hv, ok, hn, hG, fun m hm C H1 tk1 hC hc => ?_, ko1⟩
    have ko2 := ko2 m hm
    have q := q m hm
    obtain ⟨xs, x1, d1⟩ := hc
    have okc : ∀ o ∈ chn ms m.name, OkMa o := fun o ho => ok.all o (chn_mem ho)
    have lc := chn_len ms m.name
    revert q ko2 d1 okc lc
    generalize chn ms m.name = L
    intro ko2 q d1 okc lc
    have lxs : xs.length = L.length := by
      have h := dpAll_len d1
      rw [List.length_map] at h
      exact h
    have l8 : ∀ m ∈ L, m.own.length ≤ 8 := fun m hm => (okc m hm).few
    have hy1 := Ok1.tk hy hG tk1
    refine ⟨_, rfl, y, rfl, hy1.1, hy1.2, tk1.1, fun H2 h2 => ?_⟩
    have tk12 := Tk.tabbed h2
    have tk2 := tk1.trans tk12
    refine ⟨_, rfl, iteNb (fun hb => ?_) fun hb => ?_⟩
    · exact ko2 (said_V hb okc) _ tk2
    · obtain ⟨z, rfl, nz⟩ := nameV_str hb
      have kt12 : KT K H1 H2 := KT.tk tk1.1 tk12
      have x2 := tk12.lst tk1.1 x1
      have d2 := dpTAll_keep kt12 d1 (mas_noL okc)
      refine ⟨_, rfl, C, rfl, ⟨_, SqL.of x2⟩, fun D hD => ?_⟩
      have nCD : C ≠ D := ne_of_none x2 hD
      have hD0 : H D = none := tk2.free hG hD
      refine lc2_itE (walk_list (K := K) (a := C) (xs := xs)) (fun i H3 => ∃ ys, Same H2 H3 ∧ H3 D = some (.lst ys) ∧ DpAll K H3 ys ((said (L.take i) z).map sd)) ⟨[], same_new hD, upd_same, .nil⟩ (fun i H3 _ ⟨_, s3, _⟩ => SqL.of (s3 _ _ x2)) [some v, some n, some (.str z), some (.ref C), none, none, none, none, none, none, none] rfl ?_ ?_
      · rintro i x H3 H3' hi ⟨ys, s3, y3, dy⟩ ⟨rfl, hx⟩
        obtain ⟨o, eo, ho⟩ := at_rec d2 hx
        have mo := List.mem_of_getElem? eo
        obtain ⟨c, g, ps, rfl, sc, sg, dg⟩ := ma_at (dp_same s3 ho)
        refine ⟨c, _, rfl, sc, rfl, _, _, rfl, _, _, rfl, _, _, rfl, rfl, rfl, ?_⟩
        refine ⟨_, rfl, g, rfl, ⟨_, sg⟩, ?_⟩
        have lps : ps.length = o.own.length := by
          have h := dpAll_len dg
          rw [List.length_map] at h
          exact h
        have lb : (said (L.take i) z).length ≤ 160 := by
          have h := said_len (y := z) (l := L.take i) fun m hm => l8 m (List.mem_of_mem_take hm)
          rw [List.length_take] at h
          omega
        have oks : ∀ s ∈ (said (L.take i) z), OkPl s.2 := fun s hs => by
          obtain ⟨m', hm', _, h2, _⟩ := said_pl hs
          exact ((okc m' (List.mem_of_mem_take hm')).own _ h2).1
        refine lcin_itE (walk_tup (K := K) (a := g) (xs := ps)) (fun j H4 => ∃ ys, Same H2 H4 ∧ KT K H3' H4 ∧ H4 D = some (.lst ys) ∧ DpAll K H4 ys (((said (L.take i) z) ++ (((o.own.take j).filter fun p => decide (p.name = z)).map fun p => (o.name, p))).map sd)) ⟨ys, s3, KT.refl, y3, by rw [show ((o.own.take 0).filter fun p => decide (p.name = z)) = [] from rfl, List.map_nil, List.append_nil]; exact dy⟩ (fun j H4 _ ⟨_, _, kt, _⟩ => kt _ _ sg) [some v, some n, some (.str z), some (.ref C), none, some (.str o.name), some (ovD o.over), some (.ref g), none, none, none] rfl ?_ ?_
        · rintro j x H4 H4' hj ⟨ys, s4, kt4, y4, dy4⟩ ⟨rfl, hx'⟩
          obtain ⟨p, ep, hp⟩ := at_rec dg hx'
          have mp := List.mem_of_getElem? ep
          have okp := ((okc o mo).own p mp).1
          have hp4 := dpT_keep kt4 hp okp.noL
          obtain ⟨c2, g2, ss, u, rfl, sc2, sg2, ds, du⟩ := pl_at hp4
          refine ⟨c2, _, rfl, sc2, rfl, _, _, rfl, _, _, rfl, _, _, rfl, rfl, rfl, ?_⟩
          refine ⟨_, rfl, _, rfl, rfl, _, rfl, iteB (fun hb => ?_) fun hb => ?_⟩
          · have e : p.name = z := V.str.inj (of_decide_eq_true hb)
            refine ⟨_, rfl, _, rfl, _, rfl, (by show 3 ≤ sizeLine; decide), fun t ht => ?_⟩
            have st := same_new (o := .tup [V.str o.name, V.ref g2, u]) ht
            have xt : (upd H4' t (.tup [V.str o.name, V.ref g2, u])) t = some (.tup [V.str o.name, V.ref g2, u]) := upd_same
            have dt : Dp K (upd H4' t (.tup [V.str o.name, V.ref g2, u])) (.ref t) (sd (o.name, p)) := .tup (SqT.of xt) (.cons (.str _) (.cons (.tup (sqT_same st sg2) (dpAll_same st ds)) (.cons (dp_same st du) .nil)))
            have y5 := st _ _ y4
            have dy5 := dpAll_same st dy4
            have kt5 := kt4.trans (KT.same (K := K) st)
            have s5 := s4.trans st
            clear st xt
            revert dt y5 dy5 kt5 s5
            generalize upd H4' t (.tup [V.str o.name, V.ref g2, u]) = H5
            intro dt y5 dy5 kt5 s5
            have ef : ((said (L.take i) z) ++ (((o.own.take (j + 1)).filter fun p => decide (p.name = z)).map fun p => (o.name, p))) = ((said (L.take i) z) ++ (((o.own.take j).filter fun p => decide (p.name = z)).map fun p => (o.name, p))) ++ [(o.name, p)] := by
              rw [take_more ep, List.filter_append, List.map_append, List.append_assoc]
              simp [List.filter, e]
            have okall : ∀ s ∈ ((said (L.take i) z) ++ (((o.own.take j).filter fun p => decide (p.name = z)).map fun p => (o.name, p))), OkPl s.2 := fun s hs => by
              rcases List.mem_append.mp hs with hs | hs
              · exact oks s hs
              · obtain ⟨p', hp', rfl⟩ := List.mem_map.mp hs
                exact ((okc o mo).own p' (List.mem_of_mem_take (List.mem_filter.mp hp').1)).1
            have nl5 : noLAll (((said (L.take i) z) ++ (((o.own.take j).filter fun p => decide (p.name = z)).map fun p => (o.name, p))).map sd) = true := noL_all fun d hd => by
              obtain ⟨s, hs, rfl⟩ := List.mem_map.mp hd
              exact noL_sd (okall s hs)
            refine ⟨ys, y5, ?_, ys ++ [.ref t], fun b u' e' => ?_, kt5.trans (KT.put y5), upd_same, ?_⟩
            · have h := dpAll_len dy5
              have h2 := List.length_filter_le (fun p : PlM => decide (p.name = z)) (o.own.take j)
              have h3 := l8 o mo
              rw [List.length_map, List.length_append, List.length_map] at h
              rw [List.length_take] at h2
              exact small1000 (by omega)
            · rw [upd_ne (ne_of_none e' hD)]
              exact s5 _ _ e'
            · rw [ef, List.map_append]
              exact dpAll_app (dpTAll_keep (KT.put y5) dy5 nl5) (.cons (dpT_keep (KT.put y5) dt (noL_sd okp)) .nil)
          · have e : ¬ p.name = z := fun e => of_decide_eq_false hb (by rw [e])
            refine ⟨ys, s4, kt4, y4, ?_⟩
            have ef : (((o.own.take (j + 1)).filter fun p => decide (p.name = z))) = ((o.own.take j).filter fun p => decide (p.name = z)) := by
              rw [take_more ep, List.filter_append]
              simp [List.filter, e]
            rw [ef]
            exact dy4
        · rintro H4 ⟨ys, s4, kt4, y4, dy4⟩
          rw [lps, List.take_length] at dy4
          refine ⟨ys, s4, y4, ?_⟩
          rw [take_more eo, said_app, said_one]
          exact dy4
      · rintro H3 ⟨ys, s3, y3, dy⟩
        rw [lxs, List.take_length] at dy
        have tk3 := tk2.trans (Tk.same tk2.1 s3)
        refine ⟨_, rfl, _, .inl ⟨ys, SqL.of y3, rfl⟩, ?_⟩
        have ly := dpAll_len dy
        rw [List.length_map] at ly
        cases hys : ys with
        | nil =>
          rw [hys] at ly
          refine iteT (ko2 (List.length_eq_zero_iff.mp ly.symm) _ tk3)
        | cons b r =>
          rw [hys] at ly
          refine iteF ⟨_, rfl, ?_⟩
          refine q (fun e => ?_) D H3 _ tk3 hD0 y3 dy
          have e : said L z = [] := e
          rw [e] at ly
          cases ly
theorem ok_wsaid {f : Addr} {fd : FuncData} (F : FnP K "worth_said" sworth_said f fd) (T : Txt mg) (gO : mg "OWN_WORTHS" = some (.ref (He.ga K "OWN_WORTHS"))) (O : OW K w) : FnOk P w K mg base CX0 1 f fd ["said", "trait"] (spWSaid K) := by
  refine okN F scworth_said (fun vs H Q E h => ?_) (fun cdv A outer s H vs Q E hr h => ?_)
  · obtain ⟨D, t, xs, l, rfl, _⟩ := h
    rfl
  · obtain ⟨D, t, xs, l, rfl, mt, x0, d0, q⟩ := h
    refine ⟨_, (pss_cons (ps_for PassesOwn.never rfl (pi_list (pv 0)) (pg_tup rfl (pgs_cons (pg_name (i := 2) scworth_said.nd rfl (Or.inl rfl)) (pgs_cons (pg_name (i := 3) scworth_said.nd rfl (Or.inl rfl)) (pgs_cons (pg_name (i := 4) scworth_said.nd rfl (Or.inl rfl)) pgs_nil)))) (pss_one (ps_for PassesOwn.never rfl (pi_tup (pv 3)) (pg_tup rfl (pgs_cons (pg_name (i := 5) scworth_said.nd rfl (Or.inl rfl)) (pgs_cons (pg_name (i := 6) scworth_said.nd rfl (Or.inl rfl)) pgs_nil))) (pss_one (ps_if (pt_cmpR op_eq (pv 5) (pv 1) (nomark _)) (pss_one (ps_ret (pe_tup (pa_cons (pv 6) (pa_cons (pe_tup (pa_cons pe_str (pa_cons (pv 2) pa_nil))) pa_nil))))) pss_nil)))))
      (pss_one (ps_ret (pe_tup (pa_cons (pe_ix ix_kdict (pe_glob (v := .ref (He.ga K "OWN_WORTHS")) rfl gO rfl) (pv 1) (fun _ _ => rfl)) (pa_cons (pe_tup (pa_cons pe_str pa_nil)) pa_nil)))))), ?_⟩
    have lxs : xs.length = l.length := by
      have h := dpAll_len d0
      rw [List.length_map] at h
      exact h
    refine ⟨_, rfl, D, rfl, ⟨_, SqL.of x0⟩, for_list (K := K) (a := D) (xs := xs) (fun i σ H1 => ∃ v2 v3 v4 v5 v6 : Option V, σ = [some (.ref D), some (.str t), v2, v3, v4, v5, v6] ∧ H1 = H ∧ wfind (l.take i) t = none) ?_ ?_ ?_ ?_⟩
    · exact ⟨none, none, none, none, none, rfl, rfl, rfl⟩
    · rintro i σ H1 hi ⟨_, _, _, _, _, _, rfl, _⟩
      exact SqL.of x0
    · rintro i x σ H1 hi ⟨v2, v3, v4, v5, v6, rfl, rfl, hn⟩
      obtain ⟨s, es, hs⟩ := at_rec d0 hi
      obtain ⟨c, g, ss, u, rfl, sc, sg, ds, du⟩ := sd_at hs
      have lss : ss.length = s.2.sets.length := by
        have h := dpAll_len ds
        rw [List.length_map] at h
        exact h
      refine ⟨c, _, rfl, sc, rfl, _, _, rfl, _, _, rfl, _, _, rfl, rfl, ?_⟩
      refine ⟨_, rfl, g, rfl, ⟨_, sg⟩, for_tup (K := K) (a := g) (xs := ss) (fun j σ H2 => ∃ v5 v6 : Option V, σ = [some (.ref D), some (.str t), some (.str s.1), some (.ref g), some u, v5, v6] ∧ H2 = H1 ∧ (s.2.sets.take j).find? (fun x => decide (x.1 = t)) = none) ?_ ?_ ?_ ?_⟩
      · exact ⟨v5, v6, rfl, rfl, rfl⟩
      · rintro j σ H2 hj ⟨_, _, _, rfl, _⟩
        exact sg
      · rintro j x σ H2 hj ⟨v5, v6, rfl, rfl, hm⟩
        obtain ⟨e, ee, he⟩ := at_rec ds hj
        obtain ⟨c2, u2, rfl, sc2, du2⟩ := set_at he
        refine ⟨c2, _, rfl, sc2, rfl, _, _, rfl, _, _, rfl, rfl, ?_⟩
        refine ⟨_, rfl, _, rfl, rfl, _, rfl, iteB (fun hb => ?_) fun hb => ?_⟩
        · have e1 : e.1 = t := V.str.inj (of_decide_eq_true hb)
          have hf := find_at ee (p := fun x => decide (x.1 = t)) (decide_eq_true e1) hm
          refine ⟨_, rfl, _, rfl, (by show 2 ≤ sizeLine; decide), fun t1 ht1 => ?_⟩
          have s1 := same_new (o := .tup [V.str "master", V.str s.1]) ht1
          refine ⟨(by show 2 ≤ sizeLine; decide), fun t2 ht2 => ?_⟩
          have s2 := same_new (o := .tup [u2, V.ref t1]) ht2
          refine q _ _ (s1.trans s2) ?_
          have ew : wfind l t = some (e.2, s.1) := by
            rw [split_at es, wfind_app hn, wfind_one hf]
          unfold resW
          rw [ew]
          exact .tup (SqT.of upd_same) (.cons (dp_same (s1.trans s2) du2) (.cons (.tup (sqT_same s2 (SqT.of upd_same)) (.cons (.str _) (.cons (.str _) .nil))) .nil))
        · exact ⟨_, _, rfl, rfl, find_more ee (p := fun x => decide (x.1 = t)) (decide_eq_false fun e => of_decide_eq_false hb (by rw [e])) hm⟩
      · rintro σ H2 ⟨v5, v6, rfl, rfl, hm⟩
        rw [lss, List.take_length] at hm
        refine ⟨_, _, _, _, _, rfl, rfl, ?_⟩
        rw [take_more es, wfind_app hn, wfind_no hm]
        rfl
    · rintro σ H1 ⟨v2, v3, v4, v5, v6, rfl, rfl, hn⟩
      rw [lxs, List.take_length] at hn
      obtain ⟨wv, kd, dw⟩ := O.at_ t mt
      refine ⟨_, rfl, _, t, _, rfl, rfl, kd, ?_⟩
      refine ⟨(by show 1 ≤ sizeLine; decide), fun t1 ht1 => ?_⟩
      have s1 := same_new (o := .tup [V.str "own"]) ht1
      refine ⟨(by show 2 ≤ sizeLine; decide), fun t2 ht2 => ?_⟩
      have s2 := same_new (o := .tup [wv, V.ref t1]) ht2
      refine q _ _ (s1.trans s2) ?_
      unfold resW
      rw [hn]
      exact .tup (SqT.of upd_same) (.cons (dw _) (.cons (.tup (sqT_same s2 (SqT.of upd_same)) (.cons (.str _) .nil)) .nil))
theorem ok_wby {f : Addr} {fd : FuncData} {P' : Addr} (F : FnP K "worth_by" sworth_by f fd) (T : Txt mg) (N_NoTrait : Er K mg "NoTrait") (D_is_trait : Dn P w K mg base 2 "is_trait" ["thing"] spTrait) (D_said_of : DnS P w K mg base 4 "said_of" ["masters", "name", "place"] (spSaid K P')) (D_worth_said : Dn P w K mg base 1 "worth_said" ["said", "trait"] (spWSaid K)) :
    FnOk P w K mg base (L2.CX P w) 5 f fd ["masters", "name", "place", "trait"] (spWBy K P') := by
  refine okS F scworth_by (fun vs H Q E h => ?_) (fun cdv A outer s H vs Q E hr h => ?_)
  · obtain ⟨v, n, y, t, ms, rfl, _⟩ := h
    rfl
  · obtain ⟨v, n, y, t, ms, rfl, hv, ok, hn, hy, ht, hG, ko1, ko2, ko3, q⟩ := h
    refine ⟨_, (pss_cons (ps_set (i := 4) scworth_by.nd rfl (Or.inl rfl) (pe_dnS D_said_of (hr.mono (by decide)) rfl (fun σ => passAt (takes_of rfl rfl rfl rfl) σ) (pa_cons (pv 0) (pa_cons (pv 1) (pa_cons (pv 2) pa_nil)))))
      (pss_cons (ps_if (pt_not (pt_val (pe_dn D_is_trait (hr.mono (by decide)) rfl (pa_cons (pv 3) pa_nil)))) (pss_one (ps_raise rfl (takes_of rfl rfl rfl rfl) (pmk_own PySem.F.excBase_ValueError N_NoTrait.x N_NoTrait.g N_NoTrait.k (raises_own N_NoTrait.b N_NoTrait.t) rfl))) pss_nil)
      (pss_one (ps_ret (pe_dn D_worth_said (hr.mono (by decide)) rfl (pa_cons (pv 4) (pa_cons (pv 3) pa_nil))))))), ?_⟩
    refine ⟨_, rfl, _, rfl, _, rfl, v, n, y, ms, rfl, hv, ok, hn, hy, hG, ko1, ko2, fun m hm ne D H1 xs tk1 hD x1 d1 => ?_⟩
    refine ⟨_, rfl, t, rfl, (Ok1.tk ht hG tk1).1, _, rfl, iteNb (fun hb => ?_) fun hb => ?_⟩
    · exact ko3 m hm ne hb _ tk1
    · obtain ⟨z, rfl, mz⟩ := trait_mem hb
      exact ⟨_, rfl, _, rfl, D, z, xs, _, rfl, mz, x1, d1, fun u H' s' du => q m z hm ne rfl mz u H' (tk1.trans (Tk.same tk1.1 s')) du⟩
theorem ok_tby {f : Addr} {fd : FuncData} {P' : Addr} (F : FnP K "text_by" stext_by f fd) (T : Txt mg) (D_said_of : DnS P w K mg base 4 "said_of" ["masters", "name", "place"] (spSaid K P')) :
    FnOk P w K mg base (L2.CX P w) 5 f fd ["masters", "name", "place"] (spTBy K P') := by
  refine okS F sctext_by (fun vs H Q E h => ?_) (fun cdv A outer s H vs Q E hr h => ?_)
  · obtain ⟨v, n, y, ms, rfl, _⟩ := h
    rfl
  · obtain ⟨v, n, y, ms, rfl, hv, ok, hn, hy, hG, ko1, ko2, q⟩ := h
    refine ⟨_, (pss_cons (ps_for (passes_of rfl) rfl (pi_list (pe_dnS D_said_of (hr.mono (by decide)) rfl (fun σ => passAt (takes_of rfl rfl rfl rfl) σ) (pa_cons (pv 0) (pa_cons (pv 1) (pa_cons (pv 2) pa_nil))))) (pg_tup rfl (pgs_cons (pg_name (i := 3) sctext_by.nd rfl (Or.inl rfl)) (pgs_cons (pg_name (i := 4) sctext_by.nd rfl (Or.inl rfl)) (pgs_cons (pg_name (i := 5) sctext_by.nd rfl (Or.inl rfl)) pgs_nil)))) (pss_one (ps_if (pt_cmpR op_notN (pv 5) pe_non (nomark _)) (pss_one (ps_ret (pe_tup (pa_cons (pv 5) (pa_cons (pv 3) pa_nil))))) pss_nil)))
      (pss_one (ps_ret (pe_tup (pa_cons pe_non (pa_cons pe_non pa_nil)))))), ?_⟩
    refine ⟨_, rfl, _, rfl, _, rfl, v, n, y, ms, rfl, hv, ok, hn, hy, hG, ko1, ko2, fun m hm ne D H1 xs tk1 hD x1 d1 => ?_⟩
    have q := q m hm ne
    revert d1 q
    generalize saidV (chn ms m.name) y = l
    intro d1 q
    have lxs : xs.length = l.length := by
      have h := dpAll_len d1
      rw [List.length_map] at h
      exact h
    refine ⟨D, rfl, ⟨_, SqL.of x1⟩, for_list (K := K) (a := D) (xs := xs) (fun i σ H2 => ∃ v3 v4 v5 : Option V, σ = [some v, some n, some y, v3, v4, v5] ∧ H2 = H1 ∧ tfind (l.take i) = none) ?_ ?_ ?_ ?_⟩
    · exact ⟨none, none, none, rfl, rfl, rfl⟩
    · rintro i σ H2 hi ⟨_, _, _, _, rfl, _⟩
      exact SqL.of x1
    · rintro i x σ H2 hi ⟨v3, v4, v5, rfl, rfl, hn⟩
      obtain ⟨s, es, hs⟩ := at_rec d1 hi
      obtain ⟨c, g, ss, u, rfl, sc, sg, ds, du⟩ := sd_at hs
      refine ⟨c, _, rfl, sc, rfl, _, _, rfl, _, _, rfl, _, _, rfl, rfl, ?_⟩
      cases et : s.2.text with
      | none =>
        rw [et] at du
        obtain rfl := dp_non du
        refine ⟨_, rfl, rfl, _, rfl, iteF ⟨_, _, _, rfl, rfl, ?_⟩⟩
        rw [take_more es, tfind_app hn, tfind_no et]
        rfl
      | some ls =>
        rw [et] at du
        obtain ⟨a, us, rfl, sa, dus⟩ := dp_tup (show Dp K H2 u (.tuple (ls.map .str)) from du)
        refine ⟨_, rfl, rfl, _, rfl, iteT ⟨_, rfl, _, rfl, (by show 2 ≤ sizeLine; decide), fun t ht => ?_⟩⟩
        have st := same_new (o := .tup [V.ref a, V.str s.1]) ht
        refine q _ _ (tk1.trans (Tk.same tk1.1 st)) ?_
        have ew : tfind l = some (ls, s.1) := by
          rw [split_at es, tfind_app hn, tfind_one et]
        unfold Gk.resT
        rw [ew]
        exact .tup (SqT.of upd_same) (.cons (dp_same st du) (.cons (.str _) .nil))
    · rintro σ H2 ⟨v3, v4, v5, rfl, rfl, hn⟩
      rw [lxs, List.take_length] at hn
      refine ⟨(by show 2 ≤ sizeLine; decide), fun t ht => ?_⟩
      have st := same_new (o := .tup [V.non, V.non]) ht
      refine q _ _ (tk1.trans (Tk.same tk1.1 st)) ?_
      unfold Gk.resT
      rw [hn]
      exact .tup (SqT.of upd_same) (.cons .non (.cons .non .nil))

end
end K6

set_option Elab.async false
set_option linter.all false
set_option maxRecDepth 100000
set_option maxHeartbeats 2000000
namespace K6
open PySem PySem.Spec PyProof.Rows L2 GxR Gx Gd Gn Gm Gc Gk
abbrev slaw : Stmt := top 39
theorem sclaw : FnScope ["script", "pen", "k", "masters", "way", "again", "master", "place", "trait", "due"] ["script"] (defScope slaw) := ⟨rfl, rfl, rfl, by decide +kernel, rfl, by decide +kernel, by decide +kernel⟩
section
variable {P : Program} {w : World} {K : PySem.W.Frag} {mg : Str → Option Value} {base : Heap}
/-! ### the law -/
def spLaw (K : PySem.W.Frag) (P' : Addr) : Sp := fun vs H Q _ => ∃ (a : Addr) (ns : List Int), vs = [.ref a] ∧ SqL K H a (ns.map V.int) ∧ ns.length ≤ 63 ∧ TabG H P' ∧ ∀ H', Q (.bl true) H'
theorem trs_len {t : Str} (h : t ∈ TRS) : t.length ≤ 10 := by
  simp only [TRS, List.mem_cons, List.not_mem_nil, or_false] at h
  rcases h with rfl | rfl | rfl | rfl | rfl | rfl <;> decide +kernel
theorem Pen.two {p L F D : Addr} {H H' : Hp} {ns : List Int} {n : Nat} (h : Pen H p L ns n) (k : ∀ b, b ≠ F → b ≠ D → H' b = H b) (h1 : F ≠ p) (h2 : D ≠ p) (h3 : F ≠ L) (h4 : D ≠ L) : Pen H' p L ns n := h.keep (k _ h1.symm h2.symm) (k _ h3.symm h4.symm)
theorem ok_law {f : Addr} {fd : FuncData} {P' : Addr} (F : FnP K "law" slaw f fd) (T : Txt mg) (D_law_pen : Dn P w K mg base 1 "_law_pen" ["script"] (spPen K)) (D_law_draw : Dn P w K mg base 1 "_law_draw" ["pen", "many"] spDraw)
    (D_law_names : Dn P w K mg base 2 "_law_names" ["pen", "many"] spNames) (D_law_masters : Dn P w K mg base 5 "_law_masters" ["pen", "most", "pool"] (spMasters K)) (D_law_tall : Dn P w K mg base 5 "_law_tall" ["pen"] (spMade K)) (D_law_wide : Dn P w K mg base 5 "_law_wide" ["pen"] (spMade K))
    (D_law_same : Dn P w K mg base 3 "_law_same" ["found", "due"] (spSame K 3)) (D_law_there : Dn P w K mg base 2 "_law_there" ["masters", "name"] (spMsL K RThere)) (D_law_traits : Dn P w K mg base 1 "_law_traits" [] spTraits)
    (D_law_set : Dn P w K mg base 2 "_law_set" ["masters", "name", "place", "trait"] (spSetL K)) (D_law_told_lines : Dn P w K mg base 2 "_law_told_lines" ["masters", "name", "place"] (spToldL K))
    (D_worth_by : DnS P w K mg base 5 "worth_by" ["masters", "name", "place", "trait"] (spWBy K P')) (D_text_by : DnS P w K mg base 5 "text_by" ["masters", "name", "place"] (spTBy K P')) : FnOk P w K mg base CX0 6 f fd ["script"] (spLaw K P') := by
  refine okN F sclaw (fun vs H Q E h => ?_) (fun cdv A outer s H vs Q E hr h => ?_)
  · obtain ⟨a, ns, rfl, _⟩ := h
    rfl
  · obtain ⟨a, ns, rfl, hS, hl, hG, q⟩ := h
    refine ⟨_, (pss_cons (ps_set (i := 1) sclaw.nd rfl (Or.inl rfl) (pe_dn D_law_pen (hr.mono (by decide)) rfl (pa_cons (pv 0) pa_nil)))
      (pss_cons (ps_for PassesOwn.never rfl (pi_range1 rfl T.m_range (pa_cons (pe_op op_add pe_int (pe_dn D_law_draw (hr.mono (by decide)) rfl (pa_cons (pv 1) (pa_cons pe_int pa_nil)))) pa_nil)) (pg_name (i := 2) sclaw.nd rfl (Or.inl rfl)) (pss_cons (ps_set (i := 3) sclaw.nd rfl (Or.inl rfl) (pe_dn D_law_masters (hr.mono (by decide)) rfl (pa_cons (pv 1) (pa_cons pe_int (pa_cons (pe_dn D_law_names (hr.mono (by decide)) rfl (pa_cons (pv 1) (pa_cons (pe_op op_add pe_int (pe_dn D_law_draw (hr.mono (by decide)) rfl (pa_cons (pv 1) (pa_cons pe_int pa_nil)))) pa_nil))) pa_nil)))))
      (pss_cons (ps_set (i := 4) sclaw.nd rfl (Or.inl rfl) (pe_dn D_law_draw (hr.mono (by decide)) rfl (pa_cons (pv 1) (pa_cons pe_int pa_nil))))
      (pss_cons (ps_if (PW.pt (pw_and (pt_cmpR op_eq (pv 2) pe_int (nomark _)) (pw_and1 (pt_cmpR op_eq (pv 4) pe_int (nomark _))))) (pss_one (ps_set (i := 3) sclaw.nd rfl (Or.inl rfl) (pe_dn D_law_wide (hr.mono (by decide)) rfl (pa_cons (pv 1) pa_nil)))) pss_nil)
      (pss_cons (ps_if (PW.pt (pw_and (pt_cmpR op_eq (pv 2) pe_int (nomark _)) (pw_and1 (pt_cmpR op_eq (pv 4) pe_int (nomark _))))) (pss_one (ps_set (i := 3) sclaw.nd rfl (Or.inl rfl) (pe_dn D_law_tall (hr.mono (by decide)) rfl (pa_cons (pv 1) pa_nil)))) pss_nil)
      (pss_one (ps_for PassesOwn.never rfl (pi_range1 rfl T.m_range (pa_cons pe_int pa_nil)) (pg_name (i := 5) sclaw.nd rfl (Or.inl rfl)) (pss_one (ps_for PassesOwn.never rfl (pi_tup (pv 3)) (pg_name (i := 6) sclaw.nd rfl (Or.inl rfl)) (pss_one (ps_for PassesOwn.never rfl (pi_list (pe_dn D_law_there (hr.mono (by decide)) rfl (pa_cons (pv 3) (pa_cons (pe_ix ix_tup (pv 6) pe_int (fun _ _ => rfl)) pa_nil)))) (pg_name (i := 7) sclaw.nd rfl (Or.inl rfl)) (pss_cons (ps_for PassesOwn.never rfl (pi_list (pe_dn0 D_law_traits (hr.mono (by decide)) rfl)) (pg_name (i := 8) sclaw.nd rfl (Or.inl rfl)) (pss_cons (ps_set (i := 9) sclaw.nd rfl (Or.inl rfl) (pe_dn D_law_set (hr.mono (by decide)) rfl (pa_cons (pv 3) (pa_cons (pe_ix ix_tup (pv 6) pe_int (fun _ _ => rfl)) (pa_cons (pv 7) (pa_cons (pv 8) pa_nil))))))
      (pss_one (ps_if (pt_not (pt_val (pe_dn D_law_same (hr.mono (by decide)) rfl (pa_cons (pe_dnS D_worth_by (hr.mono (by decide)) rfl (fun σ => passAt LamX.takes0 σ) (pa_cons (pv 3) (pa_cons (pe_ix ix_tup (pv 6) pe_int (fun _ _ => rfl)) (pa_cons (pv 7) (pa_cons (pv 8) pa_nil))))) (pa_cons (pv 9) pa_nil))))) (pss_one (ps_ret pe_bl)) pss_nil))))
      (pss_one (ps_if (pt_not (pt_val (pe_dn D_law_same (hr.mono (by decide)) rfl (pa_cons (pe_dnS D_text_by (hr.mono (by decide)) rfl (fun σ => passAt LamX.takes0 σ) (pa_cons (pv 3) (pa_cons (pe_ix ix_tup (pv 6) pe_int (fun _ _ => rfl)) (pa_cons (pv 7) pa_nil)))) (pa_cons (pe_dn D_law_told_lines (hr.mono (by decide)) rfl (pa_cons (pv 3) (pa_cons (pe_ix ix_tup (pv 6) pe_int (fun _ _ => rfl)) (pa_cons (pv 7) pa_nil)))) pa_nil))))) (pss_one (ps_ret pe_bl)) pss_nil))))))))))))))
      (pss_one (ps_ret pe_bl)))), ?_⟩
    refine ⟨_, rfl, a, ns, rfl, hS, hl, fun p L H1 np nL hP1 s1 => ?_⟩
    have g1 : TabG H1 P' := tabSame hG s1
    refine ⟨_, rfl, p, L, ns, 0, 4, rfl, hP1, (by decide), (by decide), (by decide), fun k0 H2 k00 k01 hP2 b2 => ?_⟩
    have g2 : TabG H2 P' := hP1.tab g1 b2.kp
    refine ⟨_, _, rfl, rfl, 1 + k0, rfl, (by omega), (by omega), ?_⟩
    refine for_range (lo := 0) (n := (1 + k0).toNat) (fun i σ H3 => ∃ v2 v3 v4 v5 v6 v7 v8 v9 : Option V, σ = [some (.ref a), some (.ref p), v2, v3, v4, v5, v6, v7, v8, v9] ∧ Pen H3 p L ns (1 + 30000 * i) ∧ TabG H3 P') ?_ ?_ ?_
    · exact ⟨none, none, none, none, none, none, none, none, rfl, hP2, g2⟩
    · rintro i σ H3 hi ⟨v2, v3, v4, v5, v6, v7, v8, v9, rfl, hP3, g3⟩
      have hi : i < 4 := by omega
      -- masters
      refine ⟨_, rfl, _, rfl, _, rfl, p, L, ns, _, 5, rfl, hP3, (by decide), (by decide), (by omega), fun k4 H4 k40 k41 hP4 b4 => ?_⟩
      obtain ⟨m1, rfl⟩ : ∃ m1 : Nat, k4 = (m1 : Int) := ⟨_, (Int.toNat_of_nonneg k40).symm⟩
      refine ⟨_, _, rfl, rfl, p, L, ns, _, 1 + m1, by
        have e : ((1 : Int) + (m1 : Int)) = ((1 + m1 : Nat) : Int) := by omega
        show [V.ref p, V.int ((1 : Int) + (m1 : Int))] = _
        rw [e], (by omega), hP4, (by omega), fun c zs H5 xc hl5 nd nb n_c _ hP5 k5 => ?_⟩
      refine ⟨p, L, c, ns, _, 6, zs, rfl, (by decide), (by decide), hP5, (by omega), xc, n_c, nd, nb, (by omega), fun v ms H6 hv ok hP6 k6 => ?_⟩
      have g6 : TabG H6 P' := hP5.tab (hP4.tab (hP3.tab g3 b4.kp) k5) k6
      -- way
      refine ⟨_, rfl, p, L, ns, _, 4, rfl, hP6, (by decide), (by decide), (by omega), fun wy H7 wy0 wy1 hP7 b7 => ?_⟩
      have g7 : TabG H7 P' := hP6.tab g6 b7.kp
      have hv7 := dpT_keep (KT.pen hP6 b7.kp) hv ok.noL
      refine seq_via (fun σ' H' => σ' = [some (.ref a), some (.ref p), some (.int (0 + (i : Int))), some v, some (.int wy), v5, v6, v7, v8, v9] ∧ H7 = H') (fun nx go => go _ _ ⟨rfl, rfl⟩) ?_
      rintro _ _ ⟨rfl, rfl⟩
      refine seq_via (fun σ' H' => ∃ (v : V) (ms : List MaM), σ' = [some (.ref a), some (.ref p), some (.int (0 + (i : Int))), some v, some (.int wy), v5, v6, v7, v8, v9] ∧ Dp K H' v (.tuple (ms.map MaM.d)) ∧ OkMs ms ∧ Pen H' p L ns (1 + 30000 * i + 18200) ∧ TabG H' P') ?_ ?_
      · intro nx go
        have stay : nx [some (.ref a), some (.ref p), some (.int (0 + (i : Int))), some v, some (.int wy), v5, v6, v7, v8, v9] H7 := go _ _ ⟨v, ms, rfl, hv7, ok, hP7.up (by omega), g7⟩
        refine ⟨_, rfl, rfl, _, rfl, iteB (fun _ => ?_) fun _ => iteF stay⟩
        refine ⟨_, rfl, rfl, _, rfl, iteB (fun _ => ?_) fun _ => stay⟩
        refine ⟨_, rfl, p, L, ns, _, rfl, hP7, (by omega), fun v' ms' H8 hv8 ok' hP8 k8 => ?_⟩
        exact go _ _ ⟨v', ms', rfl, hv8, ok', hP8.up (by omega), hP7.tab g7 k8⟩
      rintro _ H8 ⟨v, ms, rfl, hv8, ok, hP8, g8⟩
      clear hv hv7 hP7 g7 g6 hP6
      refine seq_via (fun σ' H' => ∃ (v : V) (ms : List MaM), σ' = [some (.ref a), some (.ref p), some (.int (0 + (i : Int))), some v, some (.int wy), v5, v6, v7, v8, v9] ∧ Dp K H' v (.tuple (ms.map MaM.d)) ∧ OkMs ms ∧ Pen H' p L ns (1 + 30000 * i + 18200 + 9000) ∧ TabG H' P') ?_ ?_
      · intro nx go
        have stay : nx [some (.ref a), some (.ref p), some (.int (0 + (i : Int))), some v, some (.int wy), v5, v6, v7, v8, v9] H8 := go _ _ ⟨v, ms, rfl, hv8, ok, hP8.up (by omega), g8⟩
        refine ⟨_, rfl, rfl, _, rfl, iteB (fun _ => ?_) fun _ => iteF stay⟩
        refine ⟨_, rfl, rfl, _, rfl, iteB (fun _ => ?_) fun _ => stay⟩
        refine ⟨_, rfl, p, L, ns, _, rfl, hP8, (by omega), fun v' ms' H9 hv9 ok' hP9 k9 => ?_⟩
        exact go _ _ ⟨v', ms', rfl, hv9, ok', hP9.up (by omega), hP8.tab g8 k9⟩
      rintro _ H9 ⟨v, ms, rfl, hv9, ok, hP9, g9⟩
      clear hv8 hP8 g8
      obtain ⟨b, rs, rfl, sb, db⟩ := dp_tup hv9
      have lrs : rs.length = ms.length := by
        have h := dpAll_len db
        rw [List.length_map] at h
        exact h
      -- again
      refine ⟨2, rfl, (by decide), (by decide), ?_⟩
      refine for_range (lo := 0) (n := (2 : Int).toNat) (fun j σ H => ∃ v5 v6 v7 v8 v9 : Option V, σ = [some (.ref a), some (.ref p), some (.int (0 + (i : Int))), some (.ref b), some (.int wy), v5, v6, v7, v8, v9] ∧ Pen H p L ns (1 + 30000 * i + 18200 + 9000) ∧ TabG H P' ∧ KT K H9 H) ?_ ?_ ?_
      · exact ⟨_, _, _, _, _, rfl, hP9, g9, KT.refl⟩
      · rintro j σ HA hj ⟨v5, v6, v7, v8, v9, rfl, hPA, gA, ktA⟩
        refine ⟨_, rfl, b, rfl, ⟨_, ktA _ _ sb⟩, for_tup (K := K) (a := b) (xs := rs) (fun l σ H => ∃ v6 v7 v8 v9 : Option V, σ = [some (.ref a), some (.ref p), some (.int (0 + (i : Int))), some (.ref b), some (.int wy), some (.int (0 + (j : Int))), v6, v7, v8, v9] ∧ Pen H p L ns (1 + 30000 * i + 18200 + 9000) ∧ TabG H P' ∧ KT K H9 H) ?_ ?_ ?_ ?_⟩
        · exact ⟨_, _, _, _, rfl, hPA, gA, ktA⟩
        · rintro l σ H hl ⟨_, _, _, _, _, _, _, kt⟩
          exact kt _ _ sb
        · rintro l x σ H hx ⟨v6, v7, v8, v9, rfl, hP, g, kt⟩
          obtain ⟨m, em, hm⟩ := at_rec db hx
          have mm := List.mem_of_getElem? em
          have hm3 := dpT_keep kt hm (ok.all m mm).noL
          have hvH := dpT_keep kt hv9 ok.noL
          obtain ⟨c, gg, ps, rfl, sc, sg, dg⟩ := ma_at hm3
          have hz : ∃ m' ∈ ms, m'.name = m.name := ⟨m, mm, rfl⟩
          have okc : ∀ o ∈ chn ms m.name, OkMa o := fun o ho => ok.all o (chn_mem ho)
          have nm8 : m.name.length ≤ sizeLine := Nat.le_of_lt (small1000 (by have := name_small (ok.all m mm).name; omega))
          have hfn : fndV ms (.str m.name) = some m := fnd_self ok.once mm
          -- places
          refine ⟨_, rfl, _, rfl, c, _, 0, .str m.name, rfl, rfl, sc, rfl, .ref b, m.name, ms, rfl, hvH, ok, hz, fun W HB sB hW xW => ?_⟩
          have tkB : Tk P' H HB := Tk.same g sB
          refine ⟨W, rfl, ⟨_, SqL.of xW⟩, for_list (K := K) (a := W) (xs := (there ms m.name).map V.str) (fun u σ H2 => ∃ v7 v8 v9 : Option V, σ = [some (.ref a), some (.ref p), some (.int (0 + (i : Int))), some (.ref b), some (.int wy), some (.int (0 + (j : Int))), some (.ref c), v7, v8, v9] ∧ Tk P' HB H2) ?_ ?_ ?_ ?_⟩
          · exact ⟨_, _, _, rfl, Tk.refl tkB.1⟩
          · rintro u σ H2 hu ⟨_, _, _, _, tk⟩
            exact SqL.of (tk.lst tkB.1 xW)
          · rintro u x σ H2 hx ⟨v7, v8, v9, rfl, tk2⟩
            obtain ⟨y, ey, rfl⟩ := str_at hx
            obtain ⟨hne, m', hm', pl, hpl, npl⟩ := there_said (List.mem_of_getElem? ey)
            have ny : y.length ≤ sizeLine := Nat.le_of_lt (small1000 (by have h := name_small (((okc m' hm').own pl hpl).2); rw [npl] at h; omega))
            have tkH2 := tkB.trans tk2
            have ktH2 := KT.tk (K := K) g tkH2
            -- traits
            refine ⟨rfl, fun R H3 xR s3 hR => ?_⟩
            refine ⟨R, rfl, ⟨_, SqL.of xR⟩, ?_⟩
            have tk3 : Tk P' H H3 := tkH2.trans (Tk.same tkH2.1 s3)
            refine for_list (K := K) (a := R) (xs := TRS.map V.str) (fun r σ H4 => ∃ v8 v9 : Option V, σ = [some (.ref a), some (.ref p), some (.int (0 + (i : Int))), some (.ref b), some (.int wy), some (.int (0 + (j : Int))), some (.ref c), some (.str y), v8, v9] ∧ Tk P' H3 H4) ?_ ?_ ?_ ?_
            · exact ⟨_, _, rfl, Tk.refl tk3.1⟩
            · rintro r σ H4 hr4 ⟨_, _, _, tk⟩
              exact SqL.of (tk.lst tk3.1 xR)
            · rintro r x σ H4 hx4 ⟨v8, v9, rfl, tk4⟩
              obtain ⟨t, et, rfl⟩ := str_at hx4
              have mt := List.mem_of_getElem? et
              have tkH4 := tk3.trans tk4
              have kt4 := KT.tk (K := K) g tkH4
              obtain ⟨dw, sw, nw⟩ := resW_ok (l := said (chn ms m.name) y) (t := t) (said_ok okc)
              refine ⟨_, rfl, _, rfl, c, _, 0, .str m.name, rfl, rfl, kt4 _ _ sc, rfl, _, rfl, _, rfl, .ref b, m.name, y, t, ms, rfl, dpT_keep kt4 hvH ok.noL, ok, hz, mt, fun u5 H5 s5 hu5 => ?_⟩
              have kt5 := kt4.trans (KT.same (K := K) s5)
              have g5 := tabSame tkH4.1 s5
              refine ⟨_, rfl, _, rfl, c, _, 0, .str m.name, rfl, rfl, kt5 _ _ sc, rfl, _, rfl, _, rfl, .ref b, .str m.name, .str y, .str t, ms, rfl, dpT_keep kt5 hvH ok.noL, ok, ok_str nm8, ok_str ny, ok_str (Nat.le_of_lt (small1000 (by have := trs_len mt; omega))), g5, ?_, ?_, ?_, ?_⟩
              · exact fun e => by rw [hfn] at e; cases e
              · intro m2 e2 e3
                rw [hfn] at e2
                cases e2
                exact absurd e3 hne
              · intro m2 e2 _ e3
                rw [trait_true mt] at e3
                cases e3
              · rintro m2 t2 e2 _ ez _ u6 H6 tk6 hu6
                rw [hfn] at e2
                cases e2
                cases ez
                refine ⟨_, rfl, u6, u5, _, rfl, hu6, dpT_keep (KT.tk g5 tk6) hu5 nw, by rw [show saidV (chn ms m.name) (.str y) = said (chn ms m.name) y from rfl, dw]; decide, sw, fun H7 s7 => ⟨_, rfl, iteF ?_⟩⟩
                refine ⟨_, _, rfl, (tk4.trans (Tk.same tkH4.1 s5)).trans (tk6.trans (Tk.same tk6.1 s7))⟩
            · rintro σ H4 ⟨v8, v9, rfl, tk4⟩
              have tkH4 := tk3.trans tk4
              have kt4 := KT.tk (K := K) g tkH4
              obtain ⟨dw, sw, nw⟩ := resT_ok (l := said (chn ms m.name) y) (said_ok okc)
              refine ⟨_, rfl, _, rfl, c, _, 0, .str m.name, rfl, rfl, kt4 _ _ sc, rfl, _, rfl, .ref b, .str m.name, .str y, ms, rfl, dpT_keep kt4 hvH ok.noL, ok, ok_str nm8, ok_str ny, tkH4.1, ?_, ?_, ?_⟩
              · exact fun e => by rw [hfn] at e; cases e
              · intro m2 e2 e3
                rw [hfn] at e2
                cases e2
                exact absurd e3 hne
              · rintro m2 e2 _ u6 H6 tk6 hu6
                rw [hfn] at e2
                cases e2
                have kt6 := kt4.trans (KT.tk (K := K) tkH4.1 tk6)
                refine ⟨_, rfl, _, rfl, c, _, 0, .str m.name, rfl, rfl, kt6 _ _ sc, rfl, _, rfl, .ref b, m.name, y, ms, rfl, dpT_keep kt6 hvH ok.noL, ok, hz, fun u7 H7 s7 hu7 => ?_⟩
                refine ⟨u6, u7, _, rfl, dpT_keep (KT.same s7) hu6 nw, hu7, Nat.lt_succ_of_le dw, sw, fun H8 s8 => ⟨_, rfl, iteF ?_⟩⟩
                exact ⟨_, _, _, rfl, (tk2.trans (Tk.same tkH2.1 s3)).trans ((tk4.trans tk6).trans (Tk.same tk6.1 (s7.trans s8)))⟩
          · rintro σ H2 ⟨v7, v8, v9, rfl, tk2⟩
            have tkH2 := tkB.trans tk2
            exact ⟨_, _, _, _, rfl, Pen.tk hP g tkH2, tkH2.1, kt.trans (KT.tk g tkH2)⟩
        · rintro σ H ⟨v6, v7, v8, v9, rfl, hP, g, kt⟩
          exact ⟨_, _, _, _, _, rfl, hP, g, kt⟩
      · rintro σ H ⟨v5, v6, v7, v8, v9, rfl, hP, g, kt⟩
        exact ⟨_, _, _, _, _, _, _, _, rfl, hP.up (by omega), g⟩
    · rintro σ H3 ⟨v2, v3, v4, v5, v6, v7, v8, v9, rfl, hP3, g3⟩
      exact q H3

end
theorem dnS {P : Program} {w : World} {K : PySem.W.Frag} {mg : Str → Option Value} {base : Heap} {k : Nat} {x : Str} {ps : List Str} {sp : Sp} {st : Stmt} {fd : FuncData} (F : FnP K x st (He.fAd K (x, none)) fd) (hm : mg x = some (.ref (He.ga K x)))
    (b : Binds K fd ps []) (h : FnOk P w K mg base (L2.CX P w) k (He.fAd K (x, none)) fd ps sp) : DnS P w K mg base k x ps sp := ⟨_, fd, hm, F.kp, b, h⟩

/-! ### the head -/
def dOf (x : Str) (st : Stmt) : He.DefD := ⟨(x, none), x, x, defArgs st, defBody st, defScope st, [], []⟩
def fn : List He.DefD := [dOf "is_one_of" sis_one_of, dOf "is_name" sis_name, dOf "is_trait" sis_trait, dOf "master_of" smaster_of, dOf "masters_along" smasters_along, dOf "said_of" ssaid_of, dOf "worth_said" sworth_said, dOf "worth_by" sworth_by, dOf "text_by" stext_by, dOf "_law_pen" slaw_pen, dOf "_law_draw" slaw_draw, dOf "_law_names" slaw_names, dOf "_law_line" slaw_line, dOf "_law_lines" slaw_lines, dOf "_law_worth" slaw_worth, dOf "_law_traits" slaw_traits, dOf "_law_place" slaw_place, dOf "_law_masters" slaw_masters, dOf "_law_same" slaw_same, dOf "_law_chain" slaw_chain, dOf "_law_there" slaw_there, dOf "_law_set" slaw_set, dOf "_law_told_lines" slaw_told_lines, dOf "_law_wide" slaw_wide, dOf "_law_tall" slaw_tall, dOf "law" slaw]
def fa : List He.Fa := [.glo "is_one_of", .glo "is_name", .glo "is_trait", .glo "master_of", .glo "masters_along", .glo "said_of", .glo "worth_said", .glo "worth_by", .glo "text_by", .glo "_law_pen", .glo "_law_draw", .glo "_law_names", .glo "_law_line", .glo "_law_lines", .glo "_law_worth", .glo "_law_traits", .glo "_law_place", .glo "_law_masters", .glo "_law_same", .glo "_law_chain", .glo "_law_there", .glo "_law_set", .glo "_law_told_lines", .glo "_law_wide", .glo "_law_tall", .glo "law", .free "len", .free "all", .free "bool", .free "isinstance", .free "list", .free "range", .free "str", .free "int", .free "tuple", .free "zip", .free "reversed", .glo "TRAITS", .glo "OWN_WORTHS", .glo "NoMaster", .glo "NoPlace", .glo "NoTrait", .str "LETTERS" LETS, .str "FIGURES" FIGS, .int "LONGEST_NAME" 8]
def tf : List He.Defn := [("is_name", none)]
def ex : PySem.W.Frag → Bool := fun K => He.tupB K "TRAITS" [.str "left", .str "top", .str "wide", .str "high", .str "size", .str "ink"] && (excB K (He.ga K "NoMaster") && (excB K (He.ga K "NoPlace") && (excB K (He.ga K "NoTrait") && ownB K)))
def ts : List He.Tab := [(fun K => He.ga K "OWN_WORTHS", TRS)]
abbrev R : PySem.W.OpenRow := PySem.W.OpenLaw.row PySem.Challenge.rw_mastershow_k06_worths_by_masters
abbrev hk : PySem.W.Hook := He.hookX 4 fa fn ts tf ex
def ob (s : PySem.W.SharedT) : He.AlX := He.obsX 4 fa fn ts tf ex (HandSHeadRun.getT s)
theorem ob_eq (s : PySem.W.SharedT) : ob s = hk.obs s.abs := He.obsX_eq (HandSHeadRun.getT_eq s)
theorem run (w : World) : HandSHeadRun.RunEq R (PySem.W.view R.prog [39]) hk ob 6000 [("DeckError" : PySem.Str), ("NoMaster" : PySem.Str), ("NoPlace" : PySem.Str), ("NoTrait" : PySem.Str), ("is_one_of" : PySem.Str), ("TRAITS" : PySem.Str), ("OWN_WORTHS" : PySem.Str), ("LETTERS" : PySem.Str), ("FIGURES" : PySem.Str), ("LONGEST_NAME" : PySem.Str), ("is_name" : PySem.Str), ("is_trait" : PySem.Str), ("master_of" : PySem.Str), ("masters_along" : PySem.Str), ("said_of" : PySem.Str), ("worth_said" : PySem.Str), ("worth_by" : PySem.Str), ("text_by" : PySem.Str), ("_law_pen" : PySem.Str), ("_law_draw" : PySem.Str), ("_law_names" : PySem.Str), ("_law_line" : PySem.Str), ("_law_lines" : PySem.Str), ("_law_worth" : PySem.Str), ("_law_traits" : PySem.Str), ("_law_place" : PySem.Str), ("_law_masters" : PySem.Str), ("_law_same" : PySem.Str), ("_law_chain" : PySem.Str), ("_law_there" : PySem.Str), ("_law_set" : PySem.Str), ("_law_told_lines" : PySem.Str), ("_law_wide" : PySem.Str), ("_law_tall" : PySem.Str)] w := by
  refine PySem.W.byRow2 "special-get-raises" (P := fun w => HandSHeadRun.RunEq R (PySem.W.view R.prog [39]) hk ob 6000 [("DeckError" : PySem.Str), ("NoMaster" : PySem.Str), ("NoPlace" : PySem.Str), ("NoTrait" : PySem.Str), ("is_one_of" : PySem.Str), ("TRAITS" : PySem.Str), ("OWN_WORTHS" : PySem.Str), ("LETTERS" : PySem.Str), ("FIGURES" : PySem.Str), ("LONGEST_NAME" : PySem.Str), ("is_name" : PySem.Str), ("is_trait" : PySem.Str), ("master_of" : PySem.Str), ("masters_along" : PySem.Str), ("said_of" : PySem.Str), ("worth_said" : PySem.Str), ("worth_by" : PySem.Str), ("text_by" : PySem.Str), ("_law_pen" : PySem.Str), ("_law_draw" : PySem.Str), ("_law_names" : PySem.Str), ("_law_line" : PySem.Str), ("_law_lines" : PySem.Str), ("_law_worth" : PySem.Str), ("_law_traits" : PySem.Str), ("_law_place" : PySem.Str), ("_law_masters" : PySem.Str), ("_law_same" : PySem.Str), ("_law_chain" : PySem.Str), ("_law_there" : PySem.Str), ("_law_set" : PySem.Str), ("_law_told_lines" : PySem.Str), ("_law_wide" : PySem.Str), ("_law_tall" : PySem.Str)] w) (fun w => ?_) (fun w => ?_) w
  · intro os
    kernel_rfl
  · intro os
    kernel_rfl
theorem dn {P : Program} {w : World} {K : PySem.W.Frag} {mg : Str → Option Value} {base : Heap} {k : Nat} {x : Str} {ps : List Str} {sp : Sp} {st : Stmt} {fd : FuncData} (F : FnP K x st (He.fAd K (x, none)) fd) (hm : mg x = some (.ref (He.ga K x)))
    (b : Binds K fd ps []) (h : FnOk P w K mg base CX0 k (He.fAd K (x, none)) fd ps sp) : Dn P w K mg base k x ps sp := ⟨_, fd, hm, F.kp, b, h⟩
theorem facts {w : World} {K : PySem.W.Frag} {h : Heap} {mg : Str → Option Value} {f : Addr} (X : K.In h) (G : h.Ns mainGlobals mg) (hfa : mg ("law" : Str) = some (.ref f)) (c : He.SaysX fa fn ts tf ex w h K) :
    LamX.LawAtS PySem.Challenge.rw_mastershow_k06_worths_by_masters w K CX0 6 63 "script" mg f h := by
  have cd := c.t.d
  obtain ⟨fd0, F0⟩ := cd.def_ 0 (d := dOf "is_one_of" sis_one_of) rfl
  have F0 : FnP K "is_one_of" sis_one_of (He.fAd K ("is_one_of", none)) fd0 := F0
  obtain ⟨fd1, F1⟩ := cd.def_ 1 (d := dOf "is_name" sis_name) rfl
  have F1 : FnP K "is_name" sis_name (He.fAd K ("is_name", none)) fd1 := F1
  obtain ⟨fd2, F2⟩ := cd.def_ 2 (d := dOf "is_trait" sis_trait) rfl
  have F2 : FnP K "is_trait" sis_trait (He.fAd K ("is_trait", none)) fd2 := F2
  obtain ⟨fd3, F3⟩ := cd.def_ 3 (d := dOf "master_of" smaster_of) rfl
  have F3 : FnP K "master_of" smaster_of (He.fAd K ("master_of", none)) fd3 := F3
  obtain ⟨fd4, F4⟩ := cd.def_ 4 (d := dOf "masters_along" smasters_along) rfl
  have F4 : FnP K "masters_along" smasters_along (He.fAd K ("masters_along", none)) fd4 := F4
  obtain ⟨fd5, F5⟩ := cd.def_ 5 (d := dOf "said_of" ssaid_of) rfl
  have F5 : FnP K "said_of" ssaid_of (He.fAd K ("said_of", none)) fd5 := F5
  obtain ⟨fd6, F6⟩ := cd.def_ 6 (d := dOf "worth_said" sworth_said) rfl
  have F6 : FnP K "worth_said" sworth_said (He.fAd K ("worth_said", none)) fd6 := F6
  obtain ⟨fd7, F7⟩ := cd.def_ 7 (d := dOf "worth_by" sworth_by) rfl
  have F7 : FnP K "worth_by" sworth_by (He.fAd K ("worth_by", none)) fd7 := F7
  obtain ⟨fd8, F8⟩ := cd.def_ 8 (d := dOf "text_by" stext_by) rfl
  have F8 : FnP K "text_by" stext_by (He.fAd K ("text_by", none)) fd8 := F8
  obtain ⟨fd9, F9⟩ := cd.def_ 9 (d := dOf "_law_pen" slaw_pen) rfl
  have F9 : FnP K "_law_pen" slaw_pen (He.fAd K ("_law_pen", none)) fd9 := F9
  obtain ⟨fd10, F10⟩ := cd.def_ 10 (d := dOf "_law_draw" slaw_draw) rfl
  have F10 : FnP K "_law_draw" slaw_draw (He.fAd K ("_law_draw", none)) fd10 := F10
  obtain ⟨fd11, F11⟩ := cd.def_ 11 (d := dOf "_law_names" slaw_names) rfl
  have F11 : FnP K "_law_names" slaw_names (He.fAd K ("_law_names", none)) fd11 := F11
  obtain ⟨fd12, F12⟩ := cd.def_ 12 (d := dOf "_law_line" slaw_line) rfl
  have F12 : FnP K "_law_line" slaw_line (He.fAd K ("_law_line", none)) fd12 := F12
  obtain ⟨fd13, F13⟩ := cd.def_ 13 (d := dOf "_law_lines" slaw_lines) rfl
  have F13 : FnP K "_law_lines" slaw_lines (He.fAd K ("_law_lines", none)) fd13 := F13
  obtain ⟨fd14, F14⟩ := cd.def_ 14 (d := dOf "_law_worth" slaw_worth) rfl
  have F14 : FnP K "_law_worth" slaw_worth (He.fAd K ("_law_worth", none)) fd14 := F14
  obtain ⟨fd15, F15⟩ := cd.def_ 15 (d := dOf "_law_traits" slaw_traits) rfl
  have F15 : FnP K "_law_traits" slaw_traits (He.fAd K ("_law_traits", none)) fd15 := F15
  obtain ⟨fd16, F16⟩ := cd.def_ 16 (d := dOf "_law_place" slaw_place) rfl
  have F16 : FnP K "_law_place" slaw_place (He.fAd K ("_law_place", none)) fd16 := F16
  obtain ⟨fd17, F17⟩ := cd.def_ 17 (d := dOf "_law_masters" slaw_masters) rfl
  have F17 : FnP K "_law_masters" slaw_masters (He.fAd K ("_law_masters", none)) fd17 := F17
  obtain ⟨fd18, F18⟩ := cd.def_ 18 (d := dOf "_law_same" slaw_same) rfl
  have F18 : FnP K "_law_same" slaw_same (He.fAd K ("_law_same", none)) fd18 := F18
  obtain ⟨fd19, F19⟩ := cd.def_ 19 (d := dOf "_law_chain" slaw_chain) rfl
  have F19 : FnP K "_law_chain" slaw_chain (He.fAd K ("_law_chain", none)) fd19 := F19
  obtain ⟨fd20, F20⟩ := cd.def_ 20 (d := dOf "_law_there" slaw_there) rfl
  have F20 : FnP K "_law_there" slaw_there (He.fAd K ("_law_there", none)) fd20 := F20
  obtain ⟨fd21, F21⟩ := cd.def_ 21 (d := dOf "_law_set" slaw_set) rfl
  have F21 : FnP K "_law_set" slaw_set (He.fAd K ("_law_set", none)) fd21 := F21
  obtain ⟨fd22, F22⟩ := cd.def_ 22 (d := dOf "_law_told_lines" slaw_told_lines) rfl
  have F22 : FnP K "_law_told_lines" slaw_told_lines (He.fAd K ("_law_told_lines", none)) fd22 := F22
  obtain ⟨fd23, F23⟩ := cd.def_ 23 (d := dOf "_law_wide" slaw_wide) rfl
  have F23 : FnP K "_law_wide" slaw_wide (He.fAd K ("_law_wide", none)) fd23 := F23
  obtain ⟨fd24, F24⟩ := cd.def_ 24 (d := dOf "_law_tall" slaw_tall) rfl
  have F24 : FnP K "_law_tall" slaw_tall (He.fAd K ("_law_tall", none)) fd24 := F24
  obtain ⟨fd25, F25⟩ := cd.def_ 25 (d := dOf "law" slaw) rfl
  have F25 : FnP K "law" slaw (He.fAd K ("law", none)) fd25 := F25
  have e := hfa.symm.trans (He.glo_ok X G (cd.fact 25 (f := .glo "law") rfl))
  cases e
  have T : Txt mg := ⟨He.free_ok X G (cd.fact 26 (f := .free "len") rfl),
    He.free_ok X G (cd.fact 27 (f := .free "all") rfl),
    He.free_ok X G (cd.fact 28 (f := .free "bool") rfl),
    He.free_ok X G (cd.fact 29 (f := .free "isinstance") rfl),
    He.free_ok X G (cd.fact 30 (f := .free "list") rfl),
    He.free_ok X G (cd.fact 31 (f := .free "range") rfl),
    He.free_ok X G (cd.fact 32 (f := .free "str") rfl),
    He.free_ok X G (cd.fact 33 (f := .free "int") rfl),
    He.free_ok X G (cd.fact 34 (f := .free "tuple") rfl),
    He.free_ok X G (cd.fact 35 (f := .free "zip") rfl),
    He.free_ok X G (cd.fact 36 (f := .free "reversed") rfl)⟩
  have g_TRAITS := He.glo_ok X G (cd.fact 37 (f := .glo "TRAITS") rfl)
  have g_OWN_WORTHS := He.glo_ok X G (cd.fact 38 (f := .glo "OWN_WORTHS") rfl)
  have g_NoMaster := He.glo_ok X G (cd.fact 39 (f := .glo "NoMaster") rfl)
  have g_NoPlace := He.glo_ok X G (cd.fact 40 (f := .glo "NoPlace") rfl)
  have g_NoTrait := He.glo_ok X G (cd.fact 41 (f := .glo "NoTrait") rfl)
  obtain ⟨t_g1, g1⟩ := He.str_ok X G (cd.fact 42 (f := .str "LETTERS" LETS) rfl)
  obtain ⟨t_g2, g2⟩ := He.str_ok X G (cd.fact 43 (f := .str "FIGURES" FIGS) rfl)
  obtain ⟨t_g3, g3⟩ := He.int_ok X G (cd.fact 44 (f := .int "LONGEST_NAME" 8) rfl)
  have mo := c.more
  unfold ex at mo
  simp only [Bool.and_eq_true] at mo
  obtain ⟨x1, x2, x3, x4, x5⟩ := mo
  have N_NoMaster : Er K mg "NoMaster" := ⟨excB_ok x2, g_NoMaster⟩
  have N_NoPlace : Er K mg "NoPlace" := ⟨excB_ok x3, g_NoPlace⟩
  have N_NoTrait : Er K mg "NoTrait" := ⟨excB_ok x4, g_NoTrait⟩
  have tT : ∀ H, SqT K H (He.ga K "TRAITS") TR := fun H => He.tupB_ok (vs := [.str "left", .str "top", .str "wide", .str "high", .str "size", .str "ink"]) x1 H
  have O : OW K w := ownB_ok x5 (c.t.tab 0 (t := (fun K => He.ga K "OWN_WORTHS", TRS)) rfl)
  have b0 := F0.bindsN (ps := ["thing", "words"]) fun _ _ _ _ _ _ us hl => match us, hl with | [_, _], _ => rfl
  have b1 := F1.bindsN (ps := ["thing"]) fun _ _ _ _ _ _ us hl => match us, hl with | [_], _ => rfl
  have b2 := F2.bindsN (ps := ["thing"]) fun _ _ _ _ _ _ us hl => match us, hl with | [_], _ => rfl
  have b3 := F3.bindsN (ps := ["masters", "name"]) fun _ _ _ _ _ _ us hl => match us, hl with | [_, _], _ => rfl
  have b4 := F4.bindsN (ps := ["masters", "name"]) fun _ _ _ _ _ _ us hl => match us, hl with | [_, _], _ => rfl
  have b5 := F5.bindsN (ps := ["masters", "name", "place"]) fun _ _ _ _ _ _ us hl => match us, hl with | [_, _, _], _ => rfl
  have b6 := F6.bindsN (ps := ["said", "trait"]) fun _ _ _ _ _ _ us hl => match us, hl with | [_, _], _ => rfl
  have b7 := F7.bindsN (ps := ["masters", "name", "place", "trait"]) fun _ _ _ _ _ _ us hl => match us, hl with | [_, _, _, _], _ => rfl
  have b8 := F8.bindsN (ps := ["masters", "name", "place"]) fun _ _ _ _ _ _ us hl => match us, hl with | [_, _, _], _ => rfl
  have b9 := F9.bindsN (ps := ["script"]) fun _ _ _ _ _ _ us hl => match us, hl with | [_], _ => rfl
  have b10 := F10.bindsN (ps := ["pen", "many"]) fun _ _ _ _ _ _ us hl => match us, hl with | [_, _], _ => rfl
  have b11 := F11.bindsN (ps := ["pen", "many"]) fun _ _ _ _ _ _ us hl => match us, hl with | [_, _], _ => rfl
  have b12 := F12.bindsN (ps := ["pen"]) fun _ _ _ _ _ _ us hl => match us, hl with | [_], _ => rfl
  have b13 := F13.bindsN (ps := ["pen"]) fun _ _ _ _ _ _ us hl => match us, hl with | [_], _ => rfl
  have b14 := F14.bindsN (ps := ["pen", "trait"]) fun _ _ _ _ _ _ us hl => match us, hl with | [_, _], _ => rfl
  have b15 := F15.bindsN (ps := []) fun _ _ _ _ _ _ us hl => match us, hl with | [], _ => rfl
  have b16 := F16.bindsN (ps := ["pen", "name"]) fun _ _ _ _ _ _ us hl => match us, hl with | [_, _], _ => rfl
  have b17 := F17.bindsN (ps := ["pen", "most", "pool"]) fun _ _ _ _ _ _ us hl => match us, hl with | [_, _, _], _ => rfl
  have b18 := F18.bindsN (ps := ["found", "due"]) fun _ _ _ _ _ _ us hl => match us, hl with | [_, _], _ => rfl
  have b19 := F19.bindsN (ps := ["masters", "name"]) fun _ _ _ _ _ _ us hl => match us, hl with | [_, _], _ => rfl
  have b20 := F20.bindsN (ps := ["masters", "name"]) fun _ _ _ _ _ _ us hl => match us, hl with | [_, _], _ => rfl
  have b21 := F21.bindsN (ps := ["masters", "name", "place", "trait"]) fun _ _ _ _ _ _ us hl => match us, hl with | [_, _, _, _], _ => rfl
  have b22 := F22.bindsN (ps := ["masters", "name", "place"]) fun _ _ _ _ _ _ us hl => match us, hl with | [_, _, _], _ => rfl
  have b23 := F23.bindsN (ps := ["pen"]) fun _ _ _ _ _ _ us hl => match us, hl with | [_], _ => rfl
  have b24 := F24.bindsN (ps := ["pen"]) fun _ _ _ _ _ _ us hl => match us, hl with | [_], _ => rfl
  have b25 := FunD.bindsA (ps := ["script"]) F25 fun _ _ _ _ _ _ us hl => match us, hl with | [_], _ => rfl
  refine ⟨fd25, [He.cT K ("is_name", none)], spLaw K (He.cT K ("is_name", none)).2, ?_, ?_, ?_, fun s v => b25 s [v] rfl, ?_, ?_⟩
  · intro p hp
    obtain ⟨d, hd, rfl⟩ := (List.mem_map.mp (show p ∈ tf.map (fun d => He.cT K d) from hp))
    exact c.empty d hd
  · intro p hp
    obtain ⟨d, hd, rfl⟩ := (List.mem_map.mp (show p ∈ tf.map (fun d => He.cT K d) from hp))
    exact c.out d hd
  · intro p hp
    obtain ⟨d, hd, rfl⟩ := (List.mem_map.mp (show p ∈ tf.map (fun d => He.cT K d) from hp))
    exact PySem.W.codeHd_of_K X (c.hd d hd)
  · intro H a ns hl _ hT hS
    exact ⟨a, ns, rfl, hS, hl, ⟨#[], hT _ (List.mem_cons_self), (by first | exact triples_nil | simp [TriplesOk])⟩, fun _ => rfl⟩
  · intro base _ _ hB
    have B0 := hB _ (List.mem_cons_self)
    have T0 : GxR.TabB base mg (He.codeOf K ("is_name", none)) (He.cT K ("is_name", none)).2 := ⟨B0.code, B0.bm, B0.gP⟩
    have D0 := dn F0 (He.glo_ok X G (cd.fact 0 (f := .glo "is_one_of") rfl)) b0 (ok_oneof (P := (PySem.Challenge.rw_mastershow_k06_worths_by_masters).prog) (w := w) (base := base) F0 T)
    have D1 := dn F1 (He.glo_ok X G (cd.fact 1 (f := .glo "is_name") rfl)) b1 (ok_name (P := (PySem.Challenge.rw_mastershow_k06_worths_by_masters).prog) (w := w) (base := base) F1 T T0 g1 g2 g3)
    have D2 := dn F2 (He.glo_ok X G (cd.fact 2 (f := .glo "is_trait") rfl)) b2 (ok_trait F2 g_TRAITS tT D0)
    have D3 := dnS F3 (He.glo_ok X G (cd.fact 3 (f := .glo "master_of") rfl)) b3 (ok_mof F3 T N_NoMaster D1)
    have D4 := dnS F4 (He.glo_ok X G (cd.fact 4 (f := .glo "masters_along") rfl)) b4 (ok_along F4 T D3)
    have D5 := dnS F5 (He.glo_ok X G (cd.fact 5 (f := .glo "said_of") rfl)) b5 (ok_said F5 T N_NoPlace D1 D4)
    have D6 := dn F6 (He.glo_ok X G (cd.fact 6 (f := .glo "worth_said") rfl)) b6 (ok_wsaid (P := (PySem.Challenge.rw_mastershow_k06_worths_by_masters).prog) (w := w) (base := base) F6 T g_OWN_WORTHS O)
    have D7 := dnS F7 (He.glo_ok X G (cd.fact 7 (f := .glo "worth_by") rfl)) b7 (ok_wby F7 T N_NoTrait D2 D5 D6)
    have D8 := dnS F8 (He.glo_ok X G (cd.fact 8 (f := .glo "text_by") rfl)) b8 (ok_tby F8 T D5)
    have D9 := dn F9 (He.glo_ok X G (cd.fact 9 (f := .glo "_law_pen") rfl)) b9 (ok_pen (P := (PySem.Challenge.rw_mastershow_k06_worths_by_masters).prog) (w := w) (base := base) F9 T)
    have D10 := dn F10 (He.glo_ok X G (cd.fact 10 (f := .glo "_law_draw") rfl)) b10 (ok_draw (P := (PySem.Challenge.rw_mastershow_k06_worths_by_masters).prog) (w := w) (base := base) F10 T)
    have D11 := dn F11 (He.glo_ok X G (cd.fact 11 (f := .glo "_law_names") rfl)) b11 (ok_names F11 T D10)
    have D12 := dn F12 (He.glo_ok X G (cd.fact 12 (f := .glo "_law_line") rfl)) b12 (ok_lineL F12 T D10)
    have D13 := dn F13 (He.glo_ok X G (cd.fact 13 (f := .glo "_law_lines") rfl)) b13 (ok_linesL F13 T D10 D12)
    have D14 := dn F14 (He.glo_ok X G (cd.fact 14 (f := .glo "_law_worth") rfl)) b14 (ok_worthL F14 D10)
    have D15 := dn F15 (He.glo_ok X G (cd.fact 15 (f := .glo "_law_traits") rfl)) b15 (ok_traits (P := (PySem.Challenge.rw_mastershow_k06_worths_by_masters).prog) (w := w) (base := base) F15)
    have D16 := dn F16 (He.glo_ok X G (cd.fact 16 (f := .glo "_law_place") rfl)) b16 (ok_placeL F16 T D10 D13 D14 D15)
    have D17 := dn F17 (He.glo_ok X G (cd.fact 17 (f := .glo "_law_masters") rfl)) b17 (ok_masters F17 T D10 D11 D16)
    have D18 := dn F18 (He.glo_ok X G (cd.fact 18 (f := .glo "_law_same") rfl)) b18 (ok_same_n (P := (PySem.Challenge.rw_mastershow_k06_worths_by_masters).prog) (w := w) (base := base) F18 T (fun n h => dn F18 (He.glo_ok X G (cd.fact 18 (f := .glo "_law_same") rfl)) b18 h) 3)
    have D19 := dn F19 (He.glo_ok X G (cd.fact 19 (f := .glo "_law_chain") rfl)) b19 (ok_chainL (P := (PySem.Challenge.rw_mastershow_k06_worths_by_masters).prog) (w := w) (base := base) F19 T)
    have D20 := dn F20 (He.glo_ok X G (cd.fact 20 (f := .glo "_law_there") rfl)) b20 (ok_thereL F20 T D19)
    have D21 := dn F21 (He.glo_ok X G (cd.fact 21 (f := .glo "_law_set") rfl)) b21 (ok_setL F21 T D19 D15)
    have D22 := dn F22 (He.glo_ok X G (cd.fact 22 (f := .glo "_law_told_lines") rfl)) b22 (ok_toldL F22 T D19)
    have D23 := dn F23 (He.glo_ok X G (cd.fact 23 (f := .glo "_law_wide") rfl)) b23 (ok_wide F23 T D10 D11 D16)
    have D24 := dn F24 (He.glo_ok X G (cd.fact 24 (f := .glo "_law_tall") rfl)) b24 (ok_tall F24 T D10 D11 D16)
    exact ok_law F25 T D9 D10 D11 D17 D24 D23 D18 D20 D15 D21 D22 D7 D8
end K6
open PySem PySem.W PySem.Calls PyProof.Rows
set_option maxRecDepth 100000 in
set_option maxHeartbeats 0 in
theorem PySem.Challenge.cw_mastershow_k06_worths_by_masters_holds : PySem.Challenge.rw_mastershow_k06_worths_by_masters.Holds := by
  w_on; o_law
  refine HandSHeadRun.head_any (r := OpenLaw.row PySem.Challenge.rw_mastershow_k06_worths_by_masters) (q := view (OpenLaw.row PySem.Challenge.rw_mastershow_k06_worths_by_masters).prog [39]) (H := K6.hk) (ob := K6.ob) (M := 6000) (loose := [("DeckError" : PySem.Str), ("NoMaster" : PySem.Str), ("NoPlace" : PySem.Str), ("NoTrait" : PySem.Str), ("is_one_of" : PySem.Str), ("TRAITS" : PySem.Str), ("OWN_WORTHS" : PySem.Str), ("LETTERS" : PySem.Str), ("FIGURES" : PySem.Str), ("LONGEST_NAME" : PySem.Str), ("is_name" : PySem.Str), ("is_trait" : PySem.Str), ("master_of" : PySem.Str), ("masters_along" : PySem.Str), ("said_of" : PySem.Str), ("worth_said" : PySem.Str), ("worth_by" : PySem.Str), ("text_by" : PySem.Str), ("_law_pen" : PySem.Str), ("_law_draw" : PySem.Str), ("_law_names" : PySem.Str), ("_law_line" : PySem.Str), ("_law_lines" : PySem.Str), ("_law_worth" : PySem.Str), ("_law_traits" : PySem.Str), ("_law_place" : PySem.Str), ("_law_masters" : PySem.Str), ("_law_same" : PySem.Str), ("_law_chain" : PySem.Str), ("_law_there" : PySem.Str), ("_law_set" : PySem.Str), ("_law_told_lines" : PySem.Str), ("_law_wide" : PySem.Str), ("_law_tall" : PySem.Str)]) (d := HandSHeadRun.topDef (OpenLaw.row PySem.Challenge.rw_mastershow_k06_worths_by_masters).prog 39) (kwd := []) K6.ob_eq
    (by kernel_rfl) (fun s => by kernel_rfl) K6.run (by kernel_rfl) (by kernel_rfl) (by kernel_rfl) (by rfl) (by first | assumption | decide +kernel) (by decide +kernel) ⟨rfl, rfl, rfl, rfl, rfl, by decide +kernel⟩ ?hw ?hc
  case hw => w_witness2
  case hc =>
    refine LamX.walk_ofTsE (l := PySem.Challenge.rw_mastershow_k06_worths_by_masters) (n := 63) (k := 6) (x := "script") (CX := fun _ => L2.CX0) rfl (by decide) (by kernel_rfl) ⟨rfl, by decide, by decide⟩ ?F (fun _ _ _ _ _ z => z)
    intro w mg fa h Y G hmg0
    obtain ⟨K, KX, c⟩ := Y
    have hmg : mg ("law" : PySem.Str) = some (.ref fa) := by
      have e : (HandSHeadRun.topDef (OpenLaw.row PySem.Challenge.rw_mastershow_k06_worths_by_masters).prog 39).name = ("law" : PySem.Str) := by kernel_rfl
      rw [← e]
      exact hmg0
    exact ⟨K, KX, K6.facts KX G hmg c⟩

