import Derived.Test.YtnjiinbhbjpfkaaGreatDoorKg
set_option maxRecDepth 100000
set_option maxHeartbeats 0
set_option linter.all false
namespace Go.Proofs.YtnjiinbhbjpfkaaGreatDoor
open Go.RowKit Go.Proofs.Tryz
namespace F
def yz(s:Pl):Prop:=s.q 3 0≠[]\/∃k,k<4/\s.q 4 k≠[]
open Classical in
noncomputable def Pl.zp (s : Pl) : Int := if s.sp = true then 5 else if s.lv = [] then 4 else if s.q 2 0 ≠ [] then 1 else if yz s then 2 else 3
end F
namespace D
open F
variable {p : dz} {d : Dp} {K : Nat} {s s' : Pl} {m m' : Dm} {g g' : Dg} {w w' : World} {ρ : Nat → Nat}
def Dm.lD(m:Dm):Dm:={ m with ev:=[] }
def mT(m:Dm)(I:Nat):Prop:=∃t,1<=t/\t<=I/\((m.T t).how=2\/(m.T t).how=3)
theorem mT.yes{I:Nat}(h:mT m I):mT m (I+1):=by
 obtain⟨t,i,o,e⟩:=h;exact⟨t,i,by omega,e⟩
theorem mT.new{I:Nat}(h:(m.T (I+1)).how=2\/(m.T (I+1)).how=3):mT m (I+1):=⟨I+1,by omega,bj _,h⟩
theorem mT.no{I:Nat}(h:¬mT m I)(u:(m.T (I+1)).how≠2)(o:(m.T (I+1)).how≠3):¬mT m (I+1):=by
 rintro⟨t,y,G,i⟩;by_cases e:t=I+1
 .subst e;exact i.elim u o
 exact h ⟨t,y,by omega,i⟩
theorem eK.rest(h:eK p K s m ρ)(o:Ok p s):mT m m.nt↔yz s:=by
 constructor
 .rintro⟨t,Y,W,t3⟩;rcases t3 with e|e
  .left
   have:=(h.JX o).1 ⟨⟨Y,W⟩,e⟩;exact λe'=>by rw[e']at this;cases this
  right
  have ht:=(iw h t).1 ⟨Y,W⟩;rcases h.wh o ((h.how o ht).1 (by rw[e];decide)) with⟨_,i⟩|⟨_,i⟩|⟨_,i⟩|⟨k,G,_,i,e3⟩|⟨u,_,_,i,_⟩
  .rw[i]at e;cases e
  .rw[i]at e;cases e
  .rw[i]at e;cases e
  .have:=(h.JW o (x:=4) (y:=k) (ab (ab (ag ⟨rfl,G⟩))) (ag rfl)).1 ⟨⟨Y,W⟩,i,e3⟩;exact⟨k,G,λe'=>by rw[e']at this;cases this⟩
  rw[i]at e;cases e
 rintro(J|⟨k,G,J⟩)
 .obtain⟨t,ht⟩:=List.exists_mem_of_ne_nil _ J;obtain⟨⟨Z,a2⟩,H⟩:=(h.JX o).2 ht;exact⟨t,Z,a2,ag H⟩
 obtain⟨t,ht⟩:=List.exists_mem_of_ne_nil _ J;obtain⟨⟨Z,a2⟩,H,_⟩:=(h.JW o (x:=4) (y:=k) (ab (ab (ag ⟨rfl,G⟩))) (ag rfl)).2 ht;exact⟨t,Z,a2,ab H⟩
theorem GI(h:dQ d m g w)(hS:eK p K s m.lD ρ)(hO:Ok p s)(a6:s.nt≠0):Calls prog 49 #[P0 g.mb] w λe w'=>e=.returned (.int .i64 s.zp)/\w.grownBy w' none:=by
 have a8:m.nt=s.nt:=hS.nt;have hn:m.nt≠0:=by rw[a8];exact a6
 obtain⟨tb,hb,hl,hm,hF⟩:=h.T hn;have c6:w.cell? ⟨g.mb,6,none⟩=some (.slice (some ⟨tb,0,none⟩) m.nt (g.ro 1 0).2):=by rw[<-hb];exact(h.mc 6 (by omega) rfl).1
 have c7:w.cell? ⟨g.mb,7,none⟩=some (.slice (g.ro 2 0).1 (s.q 2 0).length (g.ro 2 0).2):=by
  have Z:=(h.mc 7 (by omega) (v:=.slice (g.ro 2 0).1 m.q.length (g.ro 2 0).2) rfl).1;rw[show m.q=s.q 2 0 from hS.q]at Z;exact Z
 have a5:w.cell? ⟨g.mb,14,none⟩=some (.bool s.sp):=by
  have Z:=(h.mc 14 (by omega) (v:=.bool m.sp) rfl).1;rw[show m.sp=s.sp from hS.sp]at Z;exact Z
 have aG:m.nt<=9223372036854775807:=by unfold maxLen at hm;omega
 have a0:Hid (mT m m.nt↔yz s):=hS.rest hO;have a7:Hid (∀w1,w.grownBy w1 none->Calls prog 77 #[P0 g.mb] w1 λe w'=>e=.returned (.int .i64 (s.lv.length:Int))/\w1.grownBy w' none):=λw1 hg=>by
  refine(F0 (h.kept hg) hn).mono ?_;rintro e w' ⟨N,rfl,_,aA,aE⟩;rw[hS.live hO aA];exact⟨rfl,aE⟩
 have HF:=az hF;have lt:=hF.lt;have a1:=h.M.lt;clear hF hm hb hl h hS hO a8 a6;generalize g.mb=rb at *;go_in;go_wp2_with fail
 go_loopw [3,4] (λr i wr=>∃(b:Bool) (I:Nat),r=.bool b/\i=.int .i64 I/\I<=m.nt/\Hid (b=true↔mT m I)/\Hid (w.grownBy wr none)) (λ_ i _=>m.nt-(intOf i).toNat)
 case atStart=>
  refine⟨false,0,rfl,rfl,by omega,⟨λe=>(by cases e),λe=>?_⟩,ax _ _⟩;obtain⟨t,t1,t2,_⟩:=e;omega
 case round=>
  obtain⟨b,I,rfl,rfl,hI,Y,rG⟩:=hrel;have W:=λ(k:Nat) (W:k<w.heap.size)=>rG.out.block k W (by intro e;cases e);have d6:=(aw (a:=⟨rb,6,none⟩) (W rb a1)).trans c6;have H:=HF.out.block (W tb lt);by_cases aL:I<m.nt
  .have hc:∀k,k<8->wr.cell? ⟨tb,I*8+k,none⟩=some (tC (m.T (I+1)) (iR m g 5 (I+1)) k):=λk W=>(H.cell (I*8+k) (by omega)).trans (congrArg some (pc m g (t:=I+1) (by omega) W (by omega)));have a9:(I:Int)<(m.nt:Int):=by omega
   have c1:wr.cell? ⟨tb,I*8+1,none⟩=some (.int .i64 ((m.T (I+1)).how:Int)):=hc 1 (by omega);clear H hc W
   cases b with
   | true=>
    have KN:Hid (true=true↔mT m (I+1)):=⟨λ_=>(Y.out.1 rfl).yes,λ_=>rfl⟩;clear Y;go_wp2_with fail
    go_roundw
    case rel=>exact⟨true,I+1,rfl,by go_num,by omega,KN,rG⟩
    case measure=>simp[intOf];omega
   | false=>
    have aB:Hid (¬mT m I):=λe=>by have:=Y.out.2 e;cases this
    clear Y;by_cases h2:(m.T (I+1)).how=2
    .have KN:Hid (true=true↔mT m (I+1)):=⟨λ_=>mT.new (ag h2),λ_=>rfl⟩;rw[h2]at c1;clear h2;go_wp2_with fail
     go_roundw
     case rel=>exact⟨true,I+1,rfl,by go_num,by omega,KN,rG⟩
     case measure=>simp[intOf];omega
    by_cases h3:(m.T (I+1)).how=3
    .have KN:Hid (true=true↔mT m (I+1)):=⟨λ_=>mT.new (ab h3),λ_=>rfl⟩;rw[h3]at c1;clear h2 h3;go_wp2_with fail
     go_roundw
     case rel=>exact⟨true,I+1,rfl,by go_num,by omega,KN,rG⟩
     case measure=>simp[intOf];omega
    have KN:Hid (false=true↔mT m (I+1)):=⟨λe=>(by cases e),λe=>ch e (mT.no aB.out h2 h3)⟩;generalize (m.T (I+1)).how=hw at *;have aH:((hw:Int) == 2)=false:=by rw[dK];omega
    have aF:((hw:Int) == 3)=false:=by rw[dK];omega
    clear h2 h3;go_wp2_with fail
    go_roundw
    case rel=>exact⟨false,I+1,rfl,by go_num,by omega,KN,rG⟩
    case measure=>simp[intOf];omega
  obtain rfl:I=m.nt:=by omega
  have a9:¬((m.nt:Int)<(m.nt:Int)):=by omega
  have HB:Hid (b=true↔yz s):=⟨λe=>a0.out.1 (Y.out.1 e),λe=>Y.out.2 (a0.out.2 e)⟩;have a2:=az (a7.out wr rG.out);clear H W Y a0 HF;go_wp2_with fail
  refine a2.out.mono ?_;rintro e w2 ⟨rfl,a3⟩;have KG:=az (an rG.out a3);have a4:=(bh KG.out (a:=⟨rb,14,none⟩) a1).1.trans a5;have e7:=(bh KG.out (a:=⟨rb,7,none⟩) a1).1.trans c7;clear a3 a5 c7 c6 d6 a2 a7;have fin:∀x:Int,s.zp=x->(Ending.returned (.int .i64 x)=Ending.returned (.int .i64 s.zp)/\w.grownBy w2 none):=λx e=>⟨by rw[e],KG.out⟩;have G:=az fin;clear fin
  cases hsp:s.sp with
  | true=>
   have u:=az hsp;rw[hsp]at a4;clear hsp;go_wp2_with fail
   go_ret;exact G.out 5 (by unfold Pl.zp;rw[aj u.out])
  | false=>
   have u:Hid (¬s.sp=true):=λe=>by rw[hsp]at e;cases e
   rw[hsp]at a4;clear hsp;by_cases y:s.lv=[]
   .have o:=az y;have aC:(s.lv.length:Int)=0:=by rw[y];rfl
    clear y;go_wp2_with fail
    go_ret;exact G.out 4 (by unfold Pl.zp;rw[aa u.out,aj o.out])
   have o:=az y;have aC:((s.lv.length:Int) == 0)=false:=by
    rw[dK];exact λe=>y (cf.1 (by omega))
   clear y;by_cases hq:s.q 2 0=[]
   .have J:=az hq;rw[hq]at e7;simp only[List.length_nil]at e7;clear hq
    cases b with
    | true=>
     go_wp2_with fail
     go_ret;exact G.out 2 (by unfold Pl.zp;rw[aa u.out,aa o.out,aa (λe=>e J.out),aj (HB.out.1 (by first|exact rfl|trivial))])
    | false=>
     go_wp2_with fail
     go_ret;exact G.out 3 (by unfold Pl.zp;rw[aa u.out,aa o.out,aa (λe=>e J.out),aa (λe=>by have Z:=HB.out.2 e;cases Z)])
   have J:=az hq;have aJ:(0:Int)<((s.q 2 0).length:Int):=by
    have:(s.q 2 0).length≠0:=λe=>hq (cf.1 e);omega
   clear hq;go_wp2_with fail
   go_ret;exact G.out 1 (by unfold Pl.zp;rw[aa u.out,aa o.out,aj J.out])
